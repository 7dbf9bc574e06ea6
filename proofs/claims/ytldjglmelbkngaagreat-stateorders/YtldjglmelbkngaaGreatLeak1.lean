/- A Leak as a plain function of two numbers, and the contract of its Unit. -/
import Derived.Test.YtldjglmelbkngaaGreatBase
namespace Go.Proofs.YtldjglmelbkngaaGreat.Tape
open Go.ChangeShapes Go.WideShapes Go.ChangeAt Go.RowKit

/-- What a Leak knows: how many it counts, how many it has seen since one was forgotten. -/
structure Lk where
  n : Nat
  s : Nat
/-- What one more unit leaves. -/
def Lk.old (l : Lk) : Lk := if l.n = 0 then l else if l.s + 1 = 256 then ⟨l.n - 1, 0⟩ else ⟨l.n, l.s + 1⟩
def Lk.new (l : Lk) (b : Bool) : Lk := if b then (if l.n = 0 then ⟨1, 0⟩ else ⟨l.n + 1, l.s⟩) else l
def Lk.unit (l : Lk) (b : Bool) : Lk := l.old.new b
def lk0 : Lk := ⟨0, 0⟩

set_option maxRecDepth 100000 in
set_option maxHeartbeats 1000000 in
theorem lunit_any (n s : Nat) (b : Bool) (l : Lk) (w : World) (hl : (Lk.mk n s).unit b = l) (hn : n ≤ 1000000) (hs : s ≤ 255) :
    Calls Tryz.prog 73 #[.agg #[.int .i64 n, .int .i64 s], .bool b] w fun e w' => e = .returned (.tuple #[.agg #[.int .i64 l.n, .int .i64 l.s], .bool (decide (64 ≤ l.n))]) ∧ Below w.heap.size w w' := by
  have hB : ∀ a b c d : Value, Below w.heap.size w ((w.alloc (.cells #[a, b] 43)).alloc (.cells #[c, d] 43)).drew := fun a b c d => (((Below.refl _ _).alloc (Nat.le_refl _) _).alloc (by simp) _).drew
  have hend : ∀ p q : Nat, l = ⟨p, q⟩ → (Ending.returned (.tuple #[.agg #[.int .i64 p, .int .i64 q], .bool (decide ((64 : Int) ≤ p))])) = .returned (.tuple #[.agg #[.int .i64 l.n, .int .i64 l.s], .bool (decide (64 ≤ l.n))]) := by
    rintro p q rfl
    have e : decide ((64 : Int) ≤ p) = decide (64 ≤ p) := decide_eq_decide.2 (by omega)
    rw [e]
  by_cases h0 : n = 0
  · subst h0
    cases b
    · have HL : Hid (l = ⟨0, s⟩) := by show _ = _; rw [← hl]; rfl
      clear hl
      go_enter Tryz.func73, Tryz.ntmps73
      go_wp2_with fail
      go_region
      go_wp2
      exact bodyPost_ret (v := .tuple #[.agg #[.int .i64 0, .int .i64 s], .bool false]) (by simp [results, Tryz.results73, go_sem]) rfl ⟨hend 0 s HL.out, hB _ _ _ _⟩
    · have HL : Hid (l = ⟨1, 0⟩) := by show _ = _; rw [← hl]; rfl
      clear hl
      go_enter Tryz.func73, Tryz.ntmps73
      go_wp2_with fail
      go_region
      go_wp2
      exact bodyPost_ret (v := .tuple #[.agg #[.int .i64 1, .int .i64 0], .bool false]) (by simp [results, Tryz.results73, go_sem]) rfl ⟨hend 1 0 HL.out, hB _ _ _ _⟩
  · have n0 : ((n : Int) != 0) = true := by rw [bne_iff_ne]; omega
    by_cases h1 : s = 255
    · subst h1
      obtain ⟨m, hm⟩ : ∃ m, n = m + 1 := ⟨n - 1, by omega⟩
      have em : (n : Int) - 1 = (m : Int) := by omega
      cases b
      · have HL : Hid (l = ⟨m, 0⟩) := by show _ = _; rw [← hl, hm]; simp [Lk.unit, Lk.old, Lk.new]
        have hmn : m < n := by omega
        clear hl hm
        go_enter Tryz.func73, Tryz.ntmps73
        go_wp2_with fail
        go_region
        go_wp2
        exact bodyPost_ret (v := .tuple #[.agg #[.int .i64 m, .int .i64 0], .bool (decide ((64 : Int) ≤ m))]) (by simp [results, Tryz.results73, go_sem]) rfl ⟨hend m 0 HL.out, hB _ _ _ _⟩
      · by_cases hm0 : m = 0
        · subst hm0
          obtain rfl : n = 1 := hm
          have HL : Hid (l = ⟨1, 0⟩) := by show _ = _; rw [← hl]; rfl
          clear hl em n0 h0
          go_enter Tryz.func73, Tryz.ntmps73
          go_wp2_with fail
          go_region
          go_wp2
          exact bodyPost_ret (v := .tuple #[.agg #[.int .i64 1, .int .i64 0], .bool false]) (by simp [results, Tryz.results73, go_sem]) rfl ⟨hend 1 0 HL.out, hB _ _ _ _⟩
        · have HL : Hid (l = ⟨m + 1, 0⟩) := by show _ = _; rw [← hl, hm]; simp [Lk.unit, Lk.old, Lk.new, hm0]
          have m0 : ((m : Int) == 0) = false := by rw [beq_eq_false_iff_ne]; omega
          have hmn : m < n := by omega
          clear hl hm
          go_enter Tryz.func73, Tryz.ntmps73
          go_wp2_with fail
          go_region
          go_wp2
          exact bodyPost_ret (v := .tuple #[.agg #[.int .i64 ((m + 1 : Nat) : Int), .int .i64 0], .bool (decide ((64 : Int) ≤ ((m + 1 : Nat) : Int)))]) (by simp [results, Tryz.results73, go_sem]) rfl ⟨hend (m + 1) 0 HL.out, hB _ _ _ _⟩
    · have s0 : ((s : Int) + 1 == 256) = false := by rw [beq_eq_false_iff_ne]; omega
      have n1 : ((n : Int) == 0) = false := by rw [beq_eq_false_iff_ne]; omega
      cases b
      · have HL : Hid (l = ⟨n, s + 1⟩) := by show _ = _; rw [← hl]; simp [Lk.unit, Lk.old, Lk.new, h0, h1]
        clear hl
        go_enter Tryz.func73, Tryz.ntmps73
        go_wp2_with fail
        go_region
        go_wp2
        exact bodyPost_ret (v := .tuple #[.agg #[.int .i64 n, .int .i64 ((s + 1 : Nat) : Int)], .bool (decide ((64 : Int) ≤ n))]) (by simp [results, Tryz.results73, go_sem]) rfl ⟨hend n (s + 1) HL.out, hB _ _ _ _⟩
      · have HL : Hid (l = ⟨n + 1, s + 1⟩) := by show _ = _; rw [← hl]; simp [Lk.unit, Lk.old, Lk.new, h0, h1]
        clear hl
        go_enter Tryz.func73, Tryz.ntmps73
        go_wp2_with fail
        go_region
        go_wp2
        exact bodyPost_ret (v := .tuple #[.agg #[.int .i64 ((n + 1 : Nat) : Int), .int .i64 ((s + 1 : Nat) : Int)], .bool (decide ((64 : Int) ≤ ((n + 1 : Nat) : Int)))]) (by simp [results, Tryz.results73, go_sem]) rfl ⟨hend (n + 1) (s + 1) HL.out, hB _ _ _ _⟩
end Go.Proofs.YtldjglmelbkngaaGreat.Tape
