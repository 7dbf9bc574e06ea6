/- A State in closed form: ticks that run no timer out; a link that serves; no walk. -/
import Derived.Test.YtldjglmelbkngaaGreatState12
import Derived.Test.YtldjglmelbkngaaGreatState15
import Derived.Test.YtldjglmelbkngaaGreatState17
namespace Go.Proofs.YtldjglmelbkngaaGreat.Tape
open Go.ChangeShapes Go.WideShapes Go.ChangeAt Go.RowKit
set_option linter.unusedVariables false

/-- So many ticks. -/
def St.tks (x : St) : Nat → St
  | 0 => x
  | n + 1 => (x.tks n).tick

theorem outs_calm {xs : List Int} (h : ∀ v ∈ xs, v ≠ 1) (k : Nat) : outs k xs = [] := by
  induction xs generalizing k with
  | nil => rfl
  | cons x xs ih =>
    unfold outs
    rw [if_neg (h x (by simp))]
    exact ih (fun v hv => h v (by simp [hv])) _

theorem tick_calm (x : St) (h : ∀ v ∈ x.A.xs, v ≠ 1) : x.tick = x.setC (x.A.xs.map tk) := by
  unfold St.tick
  rw [outs_calm h]
  rfl

/-- What is left after so many ticks. -/
def sb (n : Nat) (v : Int) : Int := if v = 0 then 0 else v - n

theorem sb_zero (xs : List Int) : xs.map (sb 0) = xs := by
  induction xs with
  | nil => rfl
  | cons x xs ih =>
    rw [List.map_cons, ih]
    congr 1
    unfold sb
    split
    · omega
    · simp

theorem tks_calm (x : St) (hx : x.J.xs = x.A.xs) (n : Nat) (h : ∀ v ∈ x.A.xs, v = 0 ∨ (n : Int) < v) : x.tks n = x.setC (x.A.xs.map (sb n)) := by
  induction n with
  | zero =>
    show x = x.setC (x.A.xs.map (sb 0))
    rw [sb_zero]
    obtain ⟨s, ⟨⟩, ⟨⟩, wt, hs, own, their, held, lk, told, fl⟩ := x
    cases hx
    rfl
  | succ n ih =>
    rw [St.tks, ih fun v hv => (h v hv).imp id (fun e => by omega), tick_calm]
    · show x.setC ((x.A.xs.map (sb n)).map tk) = _
      rw [List.map_map]
      congr 1
      refine List.map_congr_left fun v hv => ?_
      rcases h v hv with rfl | hl
      · simp [sb, tk]
      · have h0 : v ≠ 0 := by omega
        have h1 : v - (n : Int) ≠ 0 := by omega
        simp only [Function.comp_apply, sb, tk, if_neg h0, if_neg h1]
        omega
    · intro v hv
      have hv : v ∈ x.A.xs.map (sb n) := hv
      obtain ⟨u, hu, rfl⟩ := List.mem_map.1 hv
      unfold sb
      rcases h u hu with rfl | hl
      · simp
      · rw [if_neg (by omega)]
        omega

theorem setC_setC (x : St) (xs ys : List Int) : (x.setC xs).setC ys = x.setC ys := rfl

/-- A link that serves. -/
def svC (c : Bool) : St := ⟨4, al0 qT (List.replicate 8 0), ja0 qT (List.replicate 8 0), wt0 c 8 300, ⟨16, 600, 0, [], []⟩, false, false, false, lk0, [], 0⟩

/-- How it got there. -/
def svA (c : Bool) : St := (stN c 8 300 16 600 qT).ord 1 []
def svB (c : Bool) (q1 : Value) : St := (svA c).hear 127 127 1 0 true true q1
def svD (c : Bool) (q1 q2 : Value) : St := (svB c q1).hear 127 127 1 1 true true q2
def svE (c : Bool) (q1 q2 q3 : Value) : St := ((svD c q1 q2).tks 10).hear 127 127 0 0 true true q3
theorem sv_eq (c : Bool) (q1 q2 q3 : Value) : svE c q1 q2 q3 = { svC c with told := [tdC 1 0 nilV] } := by
  cases c <;> (show _ = _; kernel_rfl)

/-- Its room. -/
theorem room_of {k : Nat} {x : St} (h : (decide (x.told.length + k ≤ 1000) && decide (0 ≤ x.fl) && decide (x.fl + k ≤ 1000) && decide (x.lk.n + k ≤ 1000) && decide (x.lk.s ≤ 255) && decide (0 ≤ x.A.n) && decide (x.A.n + k ≤ 1000) && decide (0 ≤ x.A.tries) && decide (x.A.tries + k ≤ 1000) && decide (0 ≤ x.A.st) && decide (x.A.st ≤ 3)) = true) : Room k x := by
  simp only [Bool.and_eq_true, decide_eq_true_eq] at h
  obtain ⟨⟨⟨⟨⟨⟨⟨⟨⟨⟨h1, h2⟩, h3⟩, h4⟩, h5⟩, h6⟩, h7⟩, h8⟩, h9⟩, h10⟩, h11⟩ := h
  exact ⟨h1, ⟨h2, h3⟩, h4, h5, ⟨h6, h7⟩, ⟨h8, h9⟩, h10, h11⟩
end Go.Proofs.YtldjglmelbkngaaGreat.Tape
