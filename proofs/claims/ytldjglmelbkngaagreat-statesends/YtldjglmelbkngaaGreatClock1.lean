/- A clock in memory; the contracts of has, Left, On, Start, Clear. -/
import Derived.Test.YtldjglmelbkngaaGreatBase
namespace Go.Proofs.YtldjglmelbkngaaGreat.Tape
open Go.ChangeShapes Go.WideShapes Go.ChangeAt Go.RowKit

/-- A clock in memory: its block b, what is left of each of its eight timers. -/
structure ClockAt (w : World) (b : Nat) (xs : List Int) : Prop where
  cells : w.heap[b]? = some (.cells (xs.map (Value.int .i64)).toArray 82 (0, 0))
  len : xs.length = 8
  ok : ∀ x ∈ xs, 0 ≤ x ∧ x ≤ 4294967296

theorem ClockAt.lt {w : World} {b : Nat} {xs : List Int} (h : ClockAt w b xs) : b < w.heap.size := heap_lt h.cells
theorem ClockAt.cell {w : World} {b : Nat} {xs : List Int} (h : ClockAt w b xs) (k : Nat) (hk : k < 8) : w.cell? ⟨b, k, none⟩ = some (.int .i64 (xs.getD k 0)) ∧ w.frozen? ⟨b, k, none⟩ = false := by
  refine ⟨?_, Lib.frozen_of_heap h.cells k⟩
  rw [Lib.cell_of_heap h.cells]
  have := h.len
  simp [List.getD, show k < xs.length by omega]
theorem ClockAt.keep {w w' : World} {b : Nat} {xs : List Int} (h : ClockAt w b xs) (hb : Below w.heap.size w w') : ClockAt w' b xs := ⟨(hb.block b h.lt).trans h.cells, h.len, h.ok⟩
theorem ClockAt.set {w : World} {b : Nat} {xs : List Int} (h : ClockAt w b xs) (k : Nat) (x : Int) (hx : 0 ≤ x ∧ x ≤ 4294967296) : ClockAt (w.setCell ⟨b, k, none⟩ (.int .i64 x)) b (xs.set k x) := by
  refine ⟨?_, by rw [List.length_set]; exact h.len, fun y hy => ?_⟩
  · rw [List.map_set]; exact row_set h.cells k _
  · rcases List.mem_or_eq_of_mem_set hy with hy | rfl
    · exact h.ok y hy
    · exact hx

theorem has_nil (i : Int) (w : World) : Calls Tryz.prog 96 #[.pointer none, .int .i64 i] w fun e w' => e = .returned (.bool false) ∧ w' = w := by
  go_enter Tryz.func96, Tryz.ntmps96
  go_wp2
  go_ret
  exact ⟨rfl, rfl⟩

theorem has_in (b : Nat) (i : Int) (w : World) (h : 0 ≤ i ∧ i < 8) : Calls Tryz.prog 96 #[.pointer (some ⟨b, 0, none⟩), .int .i64 i] w fun e w' => e = .returned (.bool true) ∧ w' = w := by
  obtain ⟨h0, h1⟩ := h
  go_enter Tryz.func96, Tryz.ntmps96
  go_wp2
  go_ret
  exact ⟨rfl, rfl⟩

theorem has_out (b : Nat) (i : Int) (w : World) (h : ¬ (0 ≤ i ∧ i < 8)) : Calls Tryz.prog 96 #[.pointer (some ⟨b, 0, none⟩), .int .i64 i] w fun e w' => e = .returned (.bool false) ∧ w' = w := by
  by_cases h0 : 0 ≤ i
  · have h1 : ¬ i < 8 := fun e => h ⟨h0, e⟩
    clear h
    go_enter Tryz.func96, Tryz.ntmps96
    go_wp2
    go_ret
    exact ⟨rfl, rfl⟩
  · clear h
    go_enter Tryz.func96, Tryz.ntmps96
    go_wp2
    go_ret
    exact ⟨rfl, rfl⟩

/-- What is left of a timer. -/
def lft (xs : List Int) (i : Int) : Int := if 0 ≤ i ∧ i < 8 then xs.getD i.toNat 0 else 0

set_option maxRecDepth 100000 in
set_option maxHeartbeats 400000 in
theorem left_any (b : Nat) (xs : List Int) (i : Int) (w : World) (hc : ClockAt w b xs) : Calls Tryz.prog 60 #[.pointer (some ⟨b, 0, none⟩), .int .i64 i] w fun e w' => e = .returned (.int .i64 (lft xs i)) ∧ w' = w := by
  by_cases h : 0 ≤ i ∧ i < 8
  · obtain ⟨k, rfl⟩ : ∃ k : Nat, i = (k : Int) := ⟨i.toNat, by omega⟩
    have hk : k < 8 := by omega
    obtain ⟨c0, -⟩ := hc.cell k hk
    have HL : Hid (lft xs k = xs.getD k 0) := by show _ = _; unfold lft; rw [if_pos h]; simp
    generalize xs.getD k 0 = x at c0 HL
    have hh := has_in b k w h
    clear h
    go_enter Tryz.func60, Tryz.ntmps60
    go_wp2_with (go_at_call 96; refine hh.mono ?_; rintro e w1 ⟨rfl, hw1⟩; obtain rfl := hw1.symm; clear hw1)
    go_ret
    exact ⟨ret_int HL.out.symm, rfl⟩
  · have HL : Hid (lft xs i = 0) := by show _ = _; unfold lft; rw [if_neg h]
    have hh := has_out b i w h
    clear h
    go_enter Tryz.func60, Tryz.ntmps60
    go_wp2_with (go_at_call 96; refine hh.mono ?_; rintro e w1 ⟨rfl, hw1⟩; obtain rfl := hw1.symm; clear hw1)
    go_ret
    exact ⟨ret_int HL.out.symm, rfl⟩

set_option maxRecDepth 100000 in
set_option maxHeartbeats 400000 in
theorem left_nil (i : Int) (w : World) : Calls Tryz.prog 60 #[.pointer none, .int .i64 i] w fun e w' => e = .returned (.int .i64 0) ∧ w' = w := by
  have hh := has_nil i w
  go_enter Tryz.func60, Tryz.ntmps60
  go_wp2_with (go_at_call 96; refine hh.mono ?_; rintro e w1 ⟨rfl, hw1⟩; obtain rfl := hw1.symm; clear hw1)
  go_ret
  exact ⟨rfl, rfl⟩

set_option maxRecDepth 100000 in
set_option maxHeartbeats 400000 in
theorem on_any (b : Nat) (xs : List Int) (i : Int) (w : World) (hc : ClockAt w b xs) : Calls Tryz.prog 30 #[.pointer (some ⟨b, 0, none⟩), .int .i64 i] w fun e w' => e = .returned (.bool (lft xs i != 0)) ∧ w' = w := by
  have hh := left_any b xs i w hc
  generalize lft xs i = x at hh
  go_enter Tryz.func30, Tryz.ntmps30
  go_wp2_with (go_at_call 60; refine hh.mono ?_; rintro e w1 ⟨rfl, hw1⟩; obtain rfl := hw1.symm; clear hw1)
  go_ret
  exact ⟨rfl, rfl⟩

set_option maxRecDepth 100000 in
set_option maxHeartbeats 400000 in
theorem on_nil (i : Int) (w : World) : Calls Tryz.prog 30 #[.pointer none, .int .i64 i] w fun e w' => e = .returned (.bool false) ∧ w' = w := by
  have hh := left_nil i w
  go_enter Tryz.func30, Tryz.ntmps30
  go_wp2_with (go_at_call 60; refine hh.mono ?_; rintro e w1 ⟨rfl, hw1⟩; obtain rfl := hw1.symm; clear hw1)
  go_ret
  exact ⟨rfl, rfl⟩

set_option maxRecDepth 100000 in
set_option maxHeartbeats 400000 in
theorem start_ok (b : Nat) (xs : List Int) (k : Nat) (n : Int) (w : World) (hc : ClockAt w b xs) (hk : k < 8) (hn : 1 ≤ n) (hn2 : n ≤ 4294967296) : Calls Tryz.prog 113 #[.pointer (some ⟨b, 0, none⟩), .int .i64 k, .int .i64 n] w fun e w' => e = .returned (.int .i64 0) ∧ w' = w.setCell ⟨b, k, none⟩ (.int .i64 n) := by
  obtain ⟨c0, z0⟩ := hc.cell k hk
  have hh := has_in b k w (by omega)
  go_enter Tryz.func113, Tryz.ntmps113
  go_wp2_with (go_at_call 96; refine hh.mono ?_; rintro e w1 ⟨rfl, hw1⟩; obtain rfl := hw1.symm; clear hw1)
  go_ret
  exact ⟨rfl, rfl⟩

set_option maxRecDepth 100000 in
set_option maxHeartbeats 400000 in
theorem start_nil (i n : Int) (w : World) : Calls Tryz.prog 113 #[.pointer none, .int .i64 i, .int .i64 n] w fun e w' => e = .returned (.int .i64 1) ∧ w' = w := by
  have hh := has_nil i w
  go_enter Tryz.func113, Tryz.ntmps113
  go_wp2_with (go_at_call 96; refine hh.mono ?_; rintro e w1 ⟨rfl, hw1⟩; obtain rfl := hw1.symm; clear hw1)
  go_ret
  exact ⟨rfl, rfl⟩

set_option maxRecDepth 100000 in
set_option maxHeartbeats 400000 in
theorem start_bad (b : Nat) (i n : Int) (w : World) (h : ¬ (0 ≤ i ∧ i < 8 ∧ 1 ≤ n ∧ n ≤ 4294967296)) : Calls Tryz.prog 113 #[.pointer (some ⟨b, 0, none⟩), .int .i64 i, .int .i64 n] w fun e w' => e = .returned (.int .i64 1) ∧ w' = w := by
  by_cases h1 : 0 ≤ i ∧ i < 8
  · have hh := has_in b i w h1
    by_cases h2 : n < 1
    · clear h h1
      go_enter Tryz.func113, Tryz.ntmps113
      go_wp2_with (go_at_call 96; refine hh.mono ?_; rintro e w1 ⟨rfl, hw1⟩; obtain rfl := hw1.symm; clear hw1)
      go_ret
      exact ⟨rfl, rfl⟩
    · have h3 : n > 4294967296 := by omega
      clear h h1
      go_enter Tryz.func113, Tryz.ntmps113
      go_wp2_with (go_at_call 96; refine hh.mono ?_; rintro e w1 ⟨rfl, hw1⟩; obtain rfl := hw1.symm; clear hw1)
      go_ret
      exact ⟨rfl, rfl⟩
  · have hh := has_out b i w h1
    clear h h1
    go_enter Tryz.func113, Tryz.ntmps113
    go_wp2_with (go_at_call 96; refine hh.mono ?_; rintro e w1 ⟨rfl, hw1⟩; obtain rfl := hw1.symm; clear hw1)
    go_ret
    exact ⟨rfl, rfl⟩
end Go.Proofs.YtldjglmelbkngaaGreat.Tape
