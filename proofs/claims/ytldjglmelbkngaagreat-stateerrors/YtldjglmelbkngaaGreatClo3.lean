/- Laws on a State, their states in closed form: errors; no walk. -/
import Derived.Test.YtldjglmelbkngaaGreatState19
namespace Go.Proofs.YtldjglmelbkngaaGreat.Tape
open Go.ChangeShapes Go.WideShapes Go.ChangeAt Go.RowKit
set_option linter.unusedVariables false

/-- A Leak that hasn't failed. -/
def LOk (l : Lk) : Prop := l.n ≤ 63 ∧ l.s ≤ 255 ∧ (l.n = 0 → l.s = 0)
theorem lk_true (n s : Nat) : (Lk.mk n s).unit true = if n = 0 then ⟨1, 0⟩ else if s + 1 = 256 then (if n = 1 then ⟨1, 0⟩ else ⟨n, 0⟩) else ⟨n + 1, s + 1⟩ := by
  unfold Lk.unit Lk.old
  by_cases h : n = 0
  · simp [h, Lk.new]
  · rw [if_neg h, if_neg h]
    by_cases hs : s + 1 = 256
    · rw [if_pos hs, if_pos hs]
      by_cases h1 : n = 1
      · simp [h1, Lk.new]
      · rw [if_neg h1]
        unfold Lk.new
        rw [if_pos rfl, if_neg (by show ¬ n - 1 = 0; omega)]
        show Lk.mk (n - 1 + 1) 0 = _
        rw [show n - 1 + 1 = n by omega]
    · rw [if_neg hs, if_neg hs]
      unfold Lk.new
      rw [if_pos rfl, if_neg h]
theorem lk_false (n s : Nat) : (Lk.mk n s).unit false = if n = 0 then ⟨n, s⟩ else if s + 1 = 256 then ⟨n - 1, 0⟩ else ⟨n, s + 1⟩ := rfl
theorem LOk.false {l : Lk} (h : LOk l) : LOk (l.unit false) := by
  obtain ⟨n, s⟩ := l
  obtain ⟨h1, h2, h3⟩ := h
  simp only at h1 h2 h3
  rw [lk_false]
  split
  · exact ⟨h1, h2, h3⟩
  · split
    · exact ⟨by show n - 1 ≤ 63; omega, by show 0 ≤ 255; omega, fun _ => rfl⟩
    · exact ⟨h1, by show s + 1 ≤ 255; omega, fun e => absurd e (by show ¬ n = 0; assumption)⟩
theorem LOk.true {l : Lk} (h : LOk l) (hn : (l.unit true).n ≤ 63) : LOk (l.unit true) := by
  obtain ⟨n, s⟩ := l
  obtain ⟨h1, h2, h3⟩ := h
  simp only at h1 h2 h3
  revert hn
  rw [lk_true]
  split
  · exact fun _ => ⟨by show 1 ≤ 63; omega, by show 0 ≤ 255; omega, fun _ => rfl⟩
  · split
    · split
      · exact fun _ => ⟨by show 1 ≤ 63; omega, by show 0 ≤ 255; omega, fun _ => rfl⟩
      · exact fun hn => ⟨hn, by show 0 ≤ 255; omega, fun _ => rfl⟩
    · exact fun hn => ⟨hn, by show s + 1 ≤ 255; omega, fun e => by have : n + 1 = 0 := e; omega⟩

/-- It serves; so much is counted. -/
def eS (c : Bool) (l : Lk) : St := { svC c with lk := l }
/-- It was too much. -/
def eX (c : Bool) : St := (svC c).down 1
theorem eS_room (c : Bool) (l : Lk) (h : LOk l) : Room 900 (eS c l) := by
  obtain ⟨h1, h2, h3⟩ := h
  obtain ⟨r1, r2, r3, r4, r5, r6, r7⟩ : Room 900 (svC c) := room_of (by cases c <;> (show _ = _; kernel_rfl))
  exact ⟨r1, r2, by show l.n + 900 ≤ 1000; omega, h2, r5, r6, r7⟩
theorem eX_all (c : Bool) : (eX c).s = 0 ∧ (eX c).told = [tdC 2 1 nilV] ∧ Room 900 (eX c) := by
  cases c <;> exact ⟨by show _ = _; kernel_rfl, by show _ = _; kernel_rfl, room_of (by show _ = _; kernel_rfl)⟩
theorem eX_dmg (c : Bool) : (eX c).count true = eX c := by cases c <;> (show _ = _; kernel_rfl)
theorem eX_hear (c : Bool) (q : Value) : (eX c).hear 127 127 0 0 true true q = eX c := by cases c <;> (show _ = _; kernel_rfl)
theorem eS_dmg (c : Bool) (l : Lk) : (eS c l).count true = if 64 ≤ (l.unit true).n then eX c else eS c (l.unit true) := rfl
theorem eS_hear2 (c : Bool) (l : Lk) (q : Value) : (eS c l).hear2 127 127 0 0 true true q = eS c l := by cases c <;> (show _ = _; kernel_rfl)
theorem eS_hear (c : Bool) (l : Lk) (h : LOk l) (q : Value) : (eS c l).hear 127 127 0 0 true true q = eS c (l.unit false) := by
  have hc : (eS c l).count false = if 64 ≤ (l.unit false).n then eX c else eS c (l.unit false) := rfl
  unfold St.hear
  rw [hc, if_neg (by have := h.false.1; omega), eS_hear2]

/-- Either it is out, or it serves. -/
def EX (c : Bool) (x : St) : Prop := x = eX c ∨ ∃ l, x = eS c l ∧ LOk l
theorem EX.room {c : Bool} {x : St} (h : EX c x) : Room 900 x := by
  rcases h with rfl | ⟨l, rfl, hl⟩
  · exact (eX_all c).2.2
  · exact eS_room c l hl
theorem EX.hear {c : Bool} {x : St} (h : EX c x) (q : Value) : EX c (x.hear 127 127 0 0 true true q) := by
  rcases h with rfl | ⟨l, rfl, hl⟩
  · exact .inl (eX_hear c q)
  · exact .inr ⟨_, eS_hear c l hl q, hl.false⟩
theorem EX.dmg {c : Bool} {x : St} (h : EX c x) : EX c (x.count true) := by
  rcases h with rfl | ⟨l, rfl, hl⟩
  · exact .inl (eX_dmg c)
  · rw [eS_dmg]
    by_cases h : 64 ≤ (l.unit true).n
    · rw [if_pos h]; exact .inl rfl
    · rw [if_neg h]; exact .inr ⟨_, rfl, hl.true (by omega)⟩
/-- After so many that weren't right, one behind the other. -/
def EJ (c : Bool) (j : Nat) (x : St) : Prop := x = eX c ∨ ∃ l, x = eS c l ∧ LOk l ∧ (j < l.n ∨ l.n = j ∧ (l.s < j ∨ l.s = 0))
theorem EX.zero {c : Bool} {x : St} (h : EX c x) : EJ c 0 x := by
  rcases h with h | ⟨l, h, hl⟩
  · exact .inl h
  · refine .inr ⟨l, h, hl, ?_⟩
    have := hl.2.2
    by_cases h0 : l.n = 0
    · exact .inr ⟨h0, .inr (this h0)⟩
    · exact .inl (by omega)
theorem EJ.ex {c : Bool} {j : Nat} {x : St} (h : EJ c j x) : EX c x := by
  rcases h with h | ⟨l, h, hl, -⟩
  · exact .inl h
  · exact .inr ⟨l, h, hl⟩
theorem EJ.step {c : Bool} {j : Nat} {x : St} (h : EJ c j x) (hj : j < 64) : EJ c (j + 1) (x.count true) := by
  rcases h with rfl | ⟨l, rfl, hl, hn⟩
  · exact .inl (eX_dmg c)
  · rw [eS_dmg]
    by_cases h : 64 ≤ (l.unit true).n
    · rw [if_pos h]; exact .inl rfl
    · rw [if_neg h]
      refine .inr ⟨_, rfl, hl.true (by omega), ?_⟩
      obtain ⟨n, s⟩ := l
      obtain ⟨h1, h2, h3⟩ := hl
      simp only at h1 h2 h3 hn
      rw [lk_true]
      split
      · show j + 1 < 1 ∨ 1 = j + 1 ∧ (0 < j + 1 ∨ 0 = 0)
        omega
      · split
        · split
          · show j + 1 < 1 ∨ 1 = j + 1 ∧ (0 < j + 1 ∨ 0 = 0)
            omega
          · show j + 1 < n ∨ n = j + 1 ∧ (0 < j + 1 ∨ 0 = 0)
            omega
        · show j + 1 < n + 1 ∨ n + 1 = j + 1 ∧ (s + 1 < j + 1 ∨ s + 1 = 0)
          omega
theorem EJ.last {c : Bool} {x : St} (h : EJ c 64 x) : x = eX c := by
  rcases h with h | ⟨l, h, hl, hn⟩
  · exact h
  · have := hl.1
    omega

/-- One in so many isn't right. -/
def eR (m i : Nat) : Lk := if i = 0 then ⟨0, 0⟩ else if (i - 1) % m ≤ 255 then ⟨1, (i - 1) % m⟩ else ⟨0, 0⟩
theorem next_mod (k m : Nat) (hm : 0 < m) : (k + 1) % m = if k % m + 1 = m then 0 else k % m + 1 := by
  have hd := Nat.div_add_mod k m
  have hl := Nat.mod_lt k hm
  generalize k % m = d at *
  generalize k / m = q at *
  subst hd
  split
  · rename_i h
    rw [show m * q + d + 1 = m * (q + 1) by rw [Nat.mul_succ]; omega]
    exact Nat.mul_mod_right _ _
  · rw [show m * q + d + 1 = m * q + (d + 1) by omega, Nat.mul_add_mod]
    exact Nat.mod_eq_of_lt (by omega)
theorem eR_succ (m k : Nat) : eR m (k + 1) = if k % m ≤ 255 then ⟨1, k % m⟩ else ⟨0, 0⟩ := by
  unfold eR
  rw [if_neg (by omega)]
  rfl
theorem eR_step (m i : Nat) (hm : 256 ≤ m) : (eR m i).unit (decide (i % m = 0)) = eR m (i + 1) := by
  cases i with
  | zero =>
    rw [Nat.zero_mod, decide_eq_true rfl]
    unfold eR
    rw [if_pos rfl, lk_true, if_pos rfl, if_neg (by omega), if_pos (by rw [show 0 + 1 - 1 = 0 from rfl, Nat.zero_mod]; omega), show 0 + 1 - 1 = 0 from rfl, Nat.zero_mod]
  | succ k =>
    have hl := Nat.mod_lt k (show 0 < m by omega)
    rw [eR_succ, eR_succ, next_mod k m (by omega)]
    generalize k % m = d at *
    by_cases h : d + 1 = m
    · rw [if_pos h, decide_eq_true rfl, if_pos (show 0 ≤ 255 by omega)]
      by_cases hd : d ≤ 255
      · rw [if_pos hd, lk_true, if_neg (by omega), if_pos (by omega), if_pos rfl]
      · rw [if_neg hd, lk_true, if_pos rfl]
    · rw [if_neg h, decide_eq_false (show ¬ d + 1 = 0 by omega)]
      by_cases hd : d ≤ 255
      · rw [if_pos hd, lk_false, if_neg (by omega)]
        by_cases h5 : d = 255
        · rw [if_pos (by omega), if_neg (by omega)]
        · rw [if_neg (by omega), if_pos (by omega)]
      · rw [if_neg hd, if_neg (by omega), lk_false, if_pos rfl]
theorem eR_ok (m i : Nat) : LOk (eR m i) ∧ (eR m i).n ≤ 1 := by
  unfold eR
  split
  · exact ⟨⟨by show 0 ≤ 63; omega, by show 0 ≤ 255; omega, fun _ => rfl⟩, by show 0 ≤ 1; omega⟩
  · split
    · exact ⟨⟨by show 1 ≤ 63; omega, by assumption, fun e => absurd e (by show ¬ 1 = 0; omega)⟩, by show 1 ≤ 1; omega⟩
    · exact ⟨⟨by show 0 ≤ 63; omega, by show 0 ≤ 255; omega, fun _ => rfl⟩, by show 0 ≤ 1; omega⟩
theorem eR_dmg (c : Bool) (m i : Nat) (hm : 256 ≤ m) (h : i % m = 0) : (eS c (eR m i)).count true = eS c (eR m (i + 1)) := by
  have e := eR_step m i hm
  rw [decide_eq_true h] at e
  rw [eS_dmg, e, if_neg (by have := (eR_ok m (i + 1)).2; omega)]
theorem eR_hear (c : Bool) (m i : Nat) (hm : 256 ≤ m) (h : ¬ i % m = 0) (q : Value) : (eS c (eR m i)).hear 127 127 0 0 true true q = eS c (eR m (i + 1)) := by
  have e := eR_step m i hm
  rw [decide_eq_false h] at e
  rw [eS_hear _ _ (eR_ok m i).1, e]
end Go.Proofs.YtldjglmelbkngaaGreat.Tape
