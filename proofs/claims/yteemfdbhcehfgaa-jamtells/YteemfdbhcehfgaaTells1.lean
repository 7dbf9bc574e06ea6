/- JamTells' states, in closed form; no walk. -/
import Derived.Test.YteemfdbhcehfgaaJam2
namespace Go.Proofs.Yteemfdbhcehfgaa.Tape
open Go.ChangeShapes Go.WideShapes Go.ChangeAt Go.RowKit
set_option linter.unusedVariables false

/-- The law's timers. -/
def tJ (p : Int) (k : Nat) : Int := if k = 5 then p else uT k
theorem tJ_ok (p : Int) (h : 1 ≤ p ∧ p ≤ 30) (k : Nat) : 1 ≤ tJ p k ∧ tJ p k ≤ 4294967296 := by
  unfold tJ
  split
  · omega
  · exact uT_ok k

/-- In round i, ahead of its Due. -/
def stJ (p i : Nat) : Ja := ⟨true, false, decide (i % p = 0), tJ p, [0, 0, 0, 0, 0, ((p - i % p : Nat) : Int), 0, 0]⟩
/-- How many are told ahead of round i. -/
def cntJ (p i : Nat) : Nat := i / p + if i % p = 0 then 0 else 1

theorem stJ_new (p : Nat) : (ja0 (tJ p) (List.replicate 8 0)).begin_ = stJ p 0 := by
  unfold stJ
  rw [Nat.zero_mod, Nat.sub_zero]
  rfl

theorem mod_up {p i : Nat} (hp : 1 ≤ p) : (i % p + 1 = p ∧ (i + 1) % p = 0 ∧ (i + 1) / p = i / p + 1) ∨ (i % p + 1 < p ∧ (i + 1) % p = i % p + 1 ∧ (i + 1) / p = i / p) := by
  have hlt := Nat.mod_lt i (show 0 < p by omega)
  have he := Nat.div_add_mod i p
  by_cases h : i % p + 1 = p
  · left
    have e : i + 1 = p * (i / p + 1) := by rw [Nat.mul_add, Nat.mul_one]; omega
    refine ⟨h, ?_, ?_⟩
    · rw [e]; exact Nat.mul_mod_right _ _
    · rw [e]; exact Nat.mul_div_cancel_left _ (by omega)
  · right
    have e : i + 1 = (i % p + 1) + p * (i / p) := by omega
    refine ⟨by omega, ?_, ?_⟩
    · rw [e, Nat.add_mul_mod_self_left, Nat.mod_eq_of_lt (by omega)]
    · rw [e, Nat.add_mul_div_left _ _ (by omega), Nat.div_eq_of_lt (by omega)]
      omega

theorem cntJ_up {p i : Nat} (hp : 1 ≤ p) : cntJ p (i + 1) = cntJ p i + if i % p = 0 then 1 else 0 := by
  unfold cntJ
  rcases mod_up (i := i) hp with ⟨h1, h2, h3⟩ | ⟨h1, h2, h3⟩
  · rw [h2, h3, if_pos rfl]
    split <;> omega
  · rw [h2, h3, if_neg (by omega)]
    split <;> omega

theorem cntJ_le {p i : Nat} (hp : 1 ≤ p) : cntJ p i ≤ i := by
  induction i with
  | zero => unfold cntJ; simp
  | succ i ih => rw [cntJ_up hp]; split <;> omega

theorem cntJ_end {p i : Nat} (hp : 1 ≤ p) : cntJ p (i + 1) = 1 + i / p := by
  unfold cntJ
  rcases mod_up (i := i) hp with ⟨h1, h2, h3⟩ | ⟨h1, h2, h3⟩
  · rw [h2, h3, if_pos rfl]; omega
  · rw [h2, h3, if_neg (by omega)]; omega

/-- A round: none runs out, or timer 5 does. -/
theorem stJ_on {p i : Nat} (h : i % p + 1 < p) (hp : 1 ≤ p) : outs 0 (stJ p i).told.xs = [] ∧ (stJ p i).told.tick = stJ p (i + 1) := by
  rcases mod_up (i := i) hp with ⟨h1, h2, h3⟩ | ⟨h1, h2, h3⟩
  · omega
  · have e1 : ¬ ((p - i % p : Nat) : Int) = 1 := by omega
    have e0 : ¬ ((p - i % p : Nat) : Int) = 0 := by omega
    constructor
    · simp [stJ, Ja.told, outs, e1]
    · simp only [stJ, Ja.told, Ja.tick, List.map_cons, List.map_nil, h2]
      rw [show tk 0 = 0 from rfl, show tk ((p - i % p : Nat) : Int) = ((p - (i % p + 1) : Nat) : Int) by unfold tk; rw [if_neg e0]; omega]
      rw [show decide (i % p + 1 = 0) = false by simp]
theorem stJ_out {p i : Nat} (h : i % p + 1 = p) (hp : 1 ≤ p) : outs 0 (stJ p i).told.xs = [5] ∧ (stJ p i).told.tick.out 5 = stJ p (i + 1) := by
  rcases mod_up (i := i) hp with ⟨h1, h2, h3⟩ | ⟨h1, h2, h3⟩
  · have e1 : ((p - i % p : Nat) : Int) = 1 := by omega
    constructor
    · simp [stJ, Ja.told, outs, e1]
    · simp only [stJ, Ja.told, Ja.tick, List.map_cons, List.map_nil, h2, e1]
      rw [show tk 0 = 0 from rfl, show tk 1 = 0 from rfl]
      rfl
  · omega
end Go.Proofs.Yteemfdbhcehfgaa.Tape
