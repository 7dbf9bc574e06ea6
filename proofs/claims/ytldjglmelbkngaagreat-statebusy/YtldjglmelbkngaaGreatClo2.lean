/- Laws on a State, their states in closed form: aligns, busy, outage; no walk. -/
import Derived.Test.YtldjglmelbkngaaGreatState19
namespace Go.Proofs.YtldjglmelbkngaaGreat.Tape
open Go.ChangeShapes Go.WideShapes Go.ChangeAt Go.RowKit
set_option linter.unusedVariables false

/-- One timer runs. -/
def xsT (i : Nat) (z : Int) : List Int := (List.replicate 8 (0 : Int)).set i z
theorem xsT_mem {i : Nat} {z v : Int} (h : v ∈ xsT i z) : v = 0 ∨ v = z := by
  rcases List.mem_or_eq_of_mem_set h with h | h
  · exact .inl (List.eq_of_mem_replicate h)
  · exact .inr h
theorem xsT_sb (i : Nat) (z : Int) (n : Nat) (h : (n : Int) < z) : (xsT i z).map (sb n) = xsT i (z - n) := by
  unfold xsT
  rw [List.map_set]
  simp [sb, show z ≠ 0 by omega]
theorem tksT {x : St} {i : Nat} {z : Int} (h1 : x.A.xs = xsT i z) (h2 : x.J.xs = xsT i z) (n : Nat) (hn : (n : Int) < z) : x.tks n = x.setC (xsT i (z - n)) := by
  rw [tks_calm x (h2.trans h1.symm) n, h1, xsT_sb _ _ _ hn]
  intro v hv
  rw [h1] at hv
  rcases xsT_mem hv with h | h
  · exact .inl h
  · exact .inr (by omega)
/-- While its timer runs there is room. -/
theorem roomT {x : St} {i : Nat} {z : Int} (h1 : x.A.xs = xsT i z) (h2 : x.J.xs = xsT i z) {k : Nat} (hr : Room k x) (n : Nat) (hn : (n : Int) < z) : ∀ j, j ≤ n → Room k (x.tks j) := by
  intro j hj
  rw [tksT h1 h2 j (by omega)]
  exact hr.setC _
theorem roomT1 {x : St} {i : Nat} {z : Int} (h1 : x.A.xs = xsT i z) (h2 : x.J.xs = xsT i z) {k : Nat} (hr : Room k x) (n : Nat) (hn : (n : Int) = z) (hz : Room k (x.tks n)) : ∀ j, j ≤ n → Room k (x.tks j) := by
  intro j hj
  by_cases h : j = n
  · rw [h]; exact hz
  · exact roomT h1 h2 hr j (by omega) j (Nat.le_refl _)
theorem tksE {x : St} {i : Nat} {z : Int} (h1 : x.A.xs = xsT i z) (h2 : x.J.xs = xsT i z) (n : Nat) (hn : (n : Int) + 1 = z) : x.tks (n + 1) = (x.setC (xsT i 1)).tick := by
  show (x.tks n).tick = _
  rw [tksT h1 h2 n (by omega), show z - (n : Int) = 1 by omega]

/-! ### StateAligns -/
/-- It was started. -/
def aA (c h : Bool) : St := (if h = true then (stN c 8 300 16 600 qT).ord 3 [] else stN c 8 300 16 600 qT).ord 1 []
theorem aA_xs (c h : Bool) : (aA c h).A.xs = xsT 2 60 ∧ (aA c h).J.xs = xsT 2 60 ∧ Room 990 (aA c h) := by
  cases c <;> cases h <;> exact ⟨by show _ = _; kernel_rfl, by show _ = _; kernel_rfl, room_of (by show _ = _; kernel_rfl)⟩
theorem aA_out (c h : Bool) : ((aA c h).tks 60).s = 0 ∧ ((aA c h).tks 60).told = [tdC 2 7 nilV] ∧ Room 900 ((aA c h).tks 60) := by
  rw [tksE (aA_xs c h).1 (aA_xs c h).2.1 59 (by decide)]
  cases c <;> cases h <;> exact ⟨by show _ = _; kernel_rfl, by show _ = _; kernel_rfl, room_of (by show _ = _; kernel_rfl)⟩
/-- It heard of the other side. -/
def aB (c h : Bool) : St := ((aA c h).setC (xsT 2 60)).hear 127 127 1 0 true true nilV
theorem aB_eq (c h : Bool) (z : Int) (q : Value) : ((aA c h).setC (xsT 2 z)).hear 127 127 1 0 true true q = aB c h := by
  cases c <;> cases h <;> (show _ = _; kernel_rfl)
theorem aB_xs (c h : Bool) : (aB c h).A.xs = xsT 3 50 ∧ (aB c h).J.xs = xsT 3 50 ∧ Room 980 (aB c h) := by
  cases c <;> cases h <;> exact ⟨by show _ = _; kernel_rfl, by show _ = _; kernel_rfl, room_of (by show _ = _; kernel_rfl)⟩
theorem aB_out (c h : Bool) : ((aB c h).tks 50).s = 0 ∧ ((aB c h).tks 50).told = [tdC 2 7 nilV] ∧ Room 900 ((aB c h).tks 50) := by
  rw [tksE (aB_xs c h).1 (aB_xs c h).2.1 49 (by decide)]
  cases c <;> cases h <;> exact ⟨by show _ = _; kernel_rfl, by show _ = _; kernel_rfl, room_of (by show _ = _; kernel_rfl)⟩
/-- It is proved. -/
def aD (c h : Bool) : St := ((aB c h).setC (xsT 3 50)).hear 127 127 1 1 true true nilV
theorem aD_eq (c h : Bool) (z : Int) (q : Value) : ((aB c h).setC (xsT 3 z)).hear 127 127 1 1 true true q = aD c h := by
  cases c <;> cases h <;> (show _ = _; kernel_rfl)
/-- For how long. -/
def aP (h : Bool) : Nat := if h = true then 4 else 9
theorem aD_xs (c h : Bool) : (aD c h).A.xs = xsT (if h = true then 0 else 4) (if h = true then 5 else 10) ∧ (aD c h).J.xs = xsT (if h = true then 0 else 4) (if h = true then 5 else 10) ∧ Room 970 (aD c h) := by
  cases c <;> cases h <;> exact ⟨by show _ = _; kernel_rfl, by show _ = _; kernel_rfl, room_of (by show _ = _; kernel_rfl)⟩
theorem aD_early (c h : Bool) : ((aD c h).tks (aP h)).s = 1 := by
  rw [tksT (aD_xs c h).1 (aD_xs c h).2.1 (aP h) (by cases h <;> decide)]
  cases c <;> cases h <;> (show _ = _; kernel_rfl)
/-- It is ready. -/
def aR (c h : Bool) : St := (aD c h).tks (aP h + 1)
theorem aR_eq (c h : Bool) : aR c h = ((aD c h).setC (xsT (if h = true then 0 else 4) 1)).tick := tksE (aD_xs c h).1 (aD_xs c h).2.1 (aP h) (by cases h <;> decide)
theorem aR_xs (c h : Bool) : (aR c h).A.xs = xsT 1 40 ∧ (aR c h).J.xs = xsT 1 40 ∧ (aR c h).s = 2 ∧ Room 960 (aR c h) := by
  rw [aR_eq]
  cases c <;> cases h <;> exact ⟨by show _ = _; kernel_rfl, by show _ = _; kernel_rfl, by show _ = _; kernel_rfl, room_of (by show _ = _; kernel_rfl)⟩
theorem tks_zero (x : St) : x.tks 0 = x := rfl
theorem tks_one (x : St) : x.tks 1 = x.tick := rfl
theorem tks_succ (x : St) (n : Nat) : x.tks (n + 1) = (x.tks n).tick := rfl
theorem aD_rooms (c h : Bool) (n : Nat) (hn : n = aP h) : (∀ i, i ≤ n → Room 900 ((aD c h).tks i)) ∧ ((aD c h).tks n).s = 1 ∧ (∀ i, i ≤ 1 → Room 900 (((aD c h).tks n).tks i)) ∧ ((aD c h).tks n).tks 1 = aR c h := by
  have h1 := roomT (aD_xs c h).1 (aD_xs c h).2.1 ((aD_xs c h).2.2.mono (show 900 ≤ 970 by omega)) (aP h) (by cases h <;> decide)
  have h2 := aD_early c h
  have h3 : ((aD c h).tks (aP h)).tks 1 = aR c h := by unfold aR; rw [tks_one, tks_succ]
  have h4 := (aR_xs c h).2.2.2
  rw [← hn] at h1 h2 h3
  refine ⟨h1, h2, fun i hi => ?_, h3⟩
  by_cases hi0 : i = 0
  · rw [hi0, tks_zero]; exact h1 n (Nat.le_refl _)
  · rw [show i = 1 by omega, h3]; exact h4.mono (by omega)
theorem aR_out (c h : Bool) : ((aR c h).tks 40).s = 0 ∧ ((aR c h).tks 40).told = [tdC 2 6 nilV] ∧ Room 900 ((aR c h).tks 40) := by
  rw [tksE (aR_xs c h).1 (aR_xs c h).2.1 39 (by decide), aR_eq]
  cases c <;> cases h <;> exact ⟨by show _ = _; kernel_rfl, by show _ = _; kernel_rfl, room_of (by show _ = _; kernel_rfl)⟩
/-- It serves. -/
theorem aS_all (c h : Bool) (z : Int) (q : Value) : (((aR c h).setC (xsT 1 z)).hear 127 127 0 0 true true q).s = 4 ∧ (((aR c h).setC (xsT 1 z)).hear 127 127 0 0 true true q).told = [tdC 1 0 nilV] ∧ lft (((aR c h).setC (xsT 1 z)).hear 127 127 0 0 true true q).took.A.xs 1 = 0 := by
  rw [aR_eq]
  cases c <;> cases h <;> exact ⟨by show _ = _; kernel_rfl, by show _ = _; kernel_rfl, by show _ = _; kernel_rfl⟩

/-! ### StateBusy -/
/-- One message waits. -/
def bS (c : Bool) : St := ((svC c).ord 5 [97, 98, 99]).next
theorem bS_room (c : Bool) : Room 900 (svC c) ∧ Room 900 ((svC c).ord 5 [97, 98, 99]) ∧ Room 900 (bS c) := by
  cases c <;> exact ⟨room_of (by show _ = _; kernel_rfl), room_of (by show _ = _; kernel_rfl), room_of (by show _ = _; kernel_rfl)⟩
/-- Two timers run. -/
def xs67 (y z : Int) : List Int := [0, 0, 0, 0, 0, 0, y, z]
/-- The other side is busy. -/
def bM (c : Bool) (y z : Int) : St := ((bS c).hear 127 127 1 5 true true nilV).setC (xs67 y z)
theorem bM_0 (c : Bool) (q : Value) : (bS c).hear 127 127 1 5 true true q = bM c 30 25 := by cases c <;> (show _ = _; kernel_rfl)
theorem bM_sib (c : Bool) (y z : Int) (q : Value) : (bM c y z).hear 127 127 1 5 true true q = bM c y 25 := by cases c <;> (show _ = _; kernel_rfl)
theorem bM_tick (c : Bool) (y z : Int) (hy : 1 < y) (hz : 1 < z) : (bM c y z).tick = bM c (y - 1) (z - 1) := by
  rw [tick_calm]
  · show (bM c y z).setC [0, 0, 0, 0, 0, 0, tk y, tk z] = _
    rw [show tk y = y - 1 by unfold tk; rw [if_neg (by omega)], show tk z = z - 1 by unfold tk; rw [if_neg (by omega)]]
    rfl
  · intro v hv
    have hv : v ∈ [0, 0, 0, 0, 0, 0, y, z] := hv
    simp only [List.mem_cons, List.not_mem_nil, or_false] at hv
    omega
theorem bM_room (c : Bool) (y z : Int) : Room 900 (bM c y z) := room_of (by cases c <;> (show _ = _; kernel_rfl))
theorem bM_s (c : Bool) (y z : Int) : (bM c y z).s = 4 := by cases c <;> (show _ = _; kernel_rfl)
/-- Its time is over. -/
def bO (c : Bool) : St := (bM c 1 25).tick
theorem bO_eq (c : Bool) (z : Int) (h0 : 2 ≤ z) (h1 : z ≤ 25) : (bM c 1 z).tick = bO c := by
  obtain rfl | rfl | rfl | rfl | rfl | rfl | rfl | rfl | rfl | rfl | rfl | rfl | rfl | rfl | rfl | rfl | rfl | rfl | rfl | rfl | rfl | rfl | rfl | rfl : z = 2 ∨ z = 3 ∨ z = 4 ∨ z = 5 ∨ z = 6 ∨ z = 7 ∨ z = 8 ∨ z = 9 ∨ z = 10 ∨ z = 11 ∨ z = 12 ∨ z = 13 ∨ z = 14 ∨ z = 15 ∨ z = 16 ∨ z = 17 ∨ z = 18 ∨ z = 19 ∨ z = 20 ∨ z = 21 ∨ z = 22 ∨ z = 23 ∨ z = 24 ∨ z = 25 := by omega
  all_goals (cases c <;> (show _ = _; kernel_rfl))
theorem bO_all (c : Bool) : (bO c).s = 0 ∧ (bO c).told = [tdC 6 0 nilV, tdC 2 3 nilV] ∧ Room 900 (bO c) := by
  cases c <;> exact ⟨by show _ = _; kernel_rfl, by show _ = _; kernel_rfl, room_of (by show _ = _; kernel_rfl)⟩
/-- It was answered: behind busy ones, or without. -/
def bE (c j : Bool) : St := (if j = true then bM c 30 25 else bS c).hear 0 127 0 0 true true nilV
theorem bE_0 (c : Bool) (q : Value) : (bS c).hear 0 127 0 0 true true q = bE c false := by cases c <;> (show _ = _; kernel_rfl)
theorem bE_eq (c : Bool) (y z : Int) (q : Value) : (bM c y z).hear 0 127 0 0 true true q = bE c true := by cases c <;> (show _ = _; kernel_rfl)
theorem bE_all (c j : Bool) : (bE c j).s = 4 ∧ (bE c j).told = (if j = true then [tdC 6 0 nilV, tdC 7 0 nilV] else []) ∧ Room 900 (bE c j) ∧ (bE c j).tick = bE c j := by
  cases c <;> cases j <;> exact ⟨by show _ = _; kernel_rfl, by show _ = _; kernel_rfl, room_of (by show _ = _; kernel_rfl), by show _ = _; kernel_rfl⟩

/-! ### StateOutage -/
/-- Its own processor is out. -/
def oO (c : Bool) : St := (svC c).ord 6 []
theorem oO_all (c : Bool) : (oO c).s = 5 ∧ (oO c).told = [] ∧ Room 900 (oO c) ∧ (oO c).tick = oO c ∧ (oO c).took = oO c ∧ (oO c).ns = 4 ∧ (oO c).next = oO c ∧ (oO c).ord 7 [] = svC c := by
  cases c <;> exact ⟨by show _ = _; kernel_rfl, by show _ = _; kernel_rfl, room_of (by show _ = _; kernel_rfl), by show _ = _; kernel_rfl, by show _ = _; kernel_rfl, by show _ = _; kernel_rfl, by show _ = _; kernel_rfl, by show _ = _; kernel_rfl⟩
theorem oO_hear (c : Bool) (q : Value) : (oO c).hear 127 0 2 0 true true q = oO c := by cases c <;> (show _ = _; kernel_rfl)
theorem oB_gets (c : Bool) : (svC c).hgets 127 0 2 true true = true := by cases c <;> (show _ = _; kernel_rfl)
theorem oB_told (c : Bool) (q : Value) : ((svC c).hear 127 0 2 0 true true q).told = [tdC 3 0 q] := by cases c <;> (show _ = _; kernel_rfl)
/-- The other side's is out. -/
def oT (c : Bool) : St := (svC c).hear 127 127 1 4 true true nilV
theorem oT_eq (c : Bool) (q : Value) : (svC c).hear 127 127 1 4 true true q = oT c := by cases c <;> (show _ = _; kernel_rfl)
theorem oT_sipo (c : Bool) (q : Value) : (oT c).hear 127 127 1 4 true true q = oT c := by cases c <;> (show _ = _; kernel_rfl)
theorem oT_all (c : Bool) : Room 900 (oT c) ∧ (oT c).tick = oT c ∧ (oT c).ordE 9 [] = 9 ∧ (oT c).ord 9 [] = oT c := by
  cases c <;> exact ⟨room_of (by show _ = _; kernel_rfl), by show _ = _; kernel_rfl, by show _ = _; kernel_rfl, by show _ = _; kernel_rfl⟩
/-- It is back. -/
def oI (c : Bool) : St := (oT c).hear 127 127 0 0 true true nilV
theorem oI_eq (c : Bool) (q : Value) : (oT c).hear 127 127 0 0 true true q = oI c := by cases c <;> (show _ = _; kernel_rfl)
theorem oI_all (c : Bool) : (oI c).s = 5 ∧ Room 900 (oI c) ∧ (oI c).ordE 9 [] = 0 ∧ ((oI c).ord 9 []).s = 4 ∧ ((oI c).ord 9 []).told = [tdC 4 0 nilV, tdC 5 0 nilV] := by
  cases c <;> exact ⟨by show _ = _; kernel_rfl, room_of (by show _ = _; kernel_rfl), by show _ = _; kernel_rfl, by show _ = _; kernel_rfl, by show _ = _; kernel_rfl⟩
end Go.Proofs.YtldjglmelbkngaaGreat.Tape
