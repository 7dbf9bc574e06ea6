/- JamBound's states, in closed form; no walk. -/
import Derived.Test.YteemfdbhcehfgaaJam2
namespace Go.Proofs.Yteemfdbhcehfgaa.Tape
open Go.ChangeShapes Go.WideShapes Go.ChangeAt Go.RowKit
set_option linter.unusedVariables false

/-- The law's timers. -/
def tB (p : Int) (k : Nat) : Int := if k = 6 then p else if k = 5 then 5 else if k = 7 then 9999 else uT k
theorem tB_ok (p : Int) (h : 1 ≤ p ∧ p ≤ 100) (k : Nat) : 1 ≤ tB p k ∧ tB p k ≤ 4294967296 := by
  unfold tB
  split
  · omega
  · split
    · omega
    · split
      · omega
      · exact uT_ok k

/-- In round i, behind what is heard: z is what is left of timer 7. -/
def stB (p : Nat) (i : Nat) (z : Int) : Ja := ⟨false, true, false, tB p, [0, 0, 0, 0, 0, 0, ((p - i : Nat) : Int), z]⟩
/-- In round i, ahead of it. -/
def AtB (p : Nat) (i : Nat) (J : Ja) : Prop := (i = 0 ∧ J = ja0 (tB p) (List.replicate 8 0)) ∨ (0 < i ∧ ∃ z : Int, J = stB p i z ∧ 9999 - (i : Int) ≤ z ∧ z ≤ 9999)

theorem AtB.heard {p i : Nat} {J : Ja} (h : AtB p i J) : J.heard true = stB p i 9999 := by
  rcases h with ⟨rfl, rfl⟩ | ⟨_, z, rfl, _⟩
  · rfl
  · rfl

theorem stB_on {p i : Nat} {z : Int} (h : i + 1 < p) (hi : i ≤ 1000) (hz : 9999 - (i : Int) ≤ z ∧ z ≤ 9999) : outs 0 (stB p i z).xs = [] ∧ AtB p (i + 1) (stB p i z).tick := by
  have e1 : ¬ ((p - i : Nat) : Int) = 1 := by omega
  have e0 : ¬ ((p - i : Nat) : Int) = 0 := by omega
  have z1 : ¬ z = 1 := by omega
  have z0 : ¬ z = 0 := by omega
  constructor
  · simp [stB, outs, e1, z1]
  · refine .inr ⟨by omega, z - 1, ?_, by omega, by omega⟩
    simp only [stB, Ja.tick, List.map_cons, List.map_nil]
    rw [show tk 0 = 0 from rfl, show tk ((p - i : Nat) : Int) = ((p - (i + 1) : Nat) : Int) by unfold tk; rw [if_neg e0]; omega, show tk z = z - 1 by unfold tk; rw [if_neg z0]]
theorem stB_out {p i : Nat} {z : Int} (h : i + 1 = p) (hi : i ≤ 1000) (hz : 9999 - (i : Int) ≤ z ∧ z ≤ 9999) : outs 0 (stB p i z).xs = [6] ∧ (stB p i z).tick.why 6 = 3 := by
  have e1 : ((p - i : Nat) : Int) = 1 := by omega
  have z1 : ¬ z = 1 := by omega
  exact ⟨by simp [stB, outs, e1, z1], rfl⟩
end Go.Proofs.Yteemfdbhcehfgaa.Tape
