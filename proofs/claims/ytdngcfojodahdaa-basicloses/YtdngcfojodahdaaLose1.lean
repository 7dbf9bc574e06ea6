/- The basic method over two lines that lose units: plain facts of numbers; no walk here. -/
import Derived.Test.YtdngcfojodahdaaBase
namespace Go.Proofs.Ytdngcfojodahdaa.Tape
set_option linter.unusedVariables false

/-- What the two sides have: of a's messages how many were answered (f), sent (S); which one goes next (r); how often a's indicator (A), and b's (B), was turned; how many b took (g), and whether it has asked for one again. -/
structure Ls where
  f : Nat
  S : Nat
  r : Nat
  A : Nat
  B : Nat
  g : Nat
  ask : Bool
/-- At first. -/
def l0 : Ls := ⟨0, 0, 0, 0, 0, 0, false⟩
/-- The number that goes next, a unit later. -/
def Ls.r1 (k : Nat) (s : Ls) : Nat := if s.r < k then s.r + 1 else s.r
/-- A round: a and b send; then b gets (rb), or not, what a sent in the state o, and a gets (ra) what b sent then. -/
def Ls.step (k : Nat) (rb ra : Bool) (s o : Ls) : Ls where
  f := if ra then o.g else s.f
  S := max s.S (s.r1 k)
  r := if ra then (if o.B % 2 = s.A % 2 then max (s.r1 k) o.g else o.g) else s.r1 k
  A := if ra then (if o.B % 2 = s.A % 2 then s.A else s.A + 1) else s.A
  B := if rb then (if o.A % 2 = s.B % 2 then (if o.r < k ∧ o.r = s.g then s.B else if o.r1 k = s.g then s.B else s.B + 1) else s.B) else s.B
  g := if rb then (if o.A % 2 = s.B % 2 then (if o.r < k ∧ o.r = s.g then s.g + 1 else s.g) else s.g) else s.g
  ask := if rb then (if o.A % 2 = s.B % 2 then (if o.r < k ∧ o.r = s.g then false else if o.r1 k = s.g then false else true) else s.ask) else s.ask

/-- The states, one behind the other; a unit is under way for e rounds. -/
structure Run (k e : Nat) (rb ra : Nat → Bool) (st : Nat → Ls) : Prop where
  zero : st 0 = l0
  next : ∀ i, st (i + 1) = (st i).step k (rb i) (ra i) (st (i - e))
  early : ∀ i, i < e → rb i = false ∧ ra i = false

theorem up_le {F : Nat → Nat} (h : ∀ i, F i ≤ F (i + 1)) {a b : Nat} (hab : a ≤ b) : F a ≤ F b := by
  induction b with
  | zero => rw [Nat.le_zero.1 hab]; exact Nat.le_refl _
  | succ b ih =>
    by_cases e : a = b + 1
    · rw [e]; exact Nat.le_refl _
    · exact Nat.le_trans (ih (by omega)) (h b)

/-- The first step over a number. -/
theorem first_over {F : Nat → Nat} (h : ∀ i, F (i + 1) ≤ F i + 1) (a : Nat) : ∀ d i, F i ≤ a → a < F (i + d) → ∃ t, i ≤ t ∧ t < i + d ∧ F t = a ∧ F (t + 1) = a + 1
  | 0, i, h1, h2 => by simp at h2; omega
  | d + 1, i, h1, h2 => by
    by_cases hc : a < F (i + d)
    · obtain ⟨t, g1, g2, g3⟩ := first_over h a d i h1 hc
      exact ⟨t, g1, by omega, g3⟩
    · have := h (i + d)
      exact ⟨i + d, by omega, by omega, by rw [show i + (d + 1) = i + d + 1 by omega] at h2; omega, by rw [show i + (d + 1) = i + d + 1 by omega] at h2; omega⟩

namespace Run
variable {k e : Nat} {rb ra : Nat → Bool} {st : Nat → Ls}

theorem A1 (h : Run k e rb ra st) (i : Nat) : (st i).A ≤ (st (i + 1)).A ∧ (st (i + 1)).A ≤ (st i).A + 1 := by
  rw [h.next]; unfold Ls.step; simp only; repeat' split
  all_goals omega
theorem B1 (h : Run k e rb ra st) (i : Nat) : (st i).B ≤ (st (i + 1)).B ∧ (st (i + 1)).B ≤ (st i).B + 1 := by
  rw [h.next]; unfold Ls.step; simp only; repeat' split
  all_goals omega
theorem g1 (h : Run k e rb ra st) (i : Nat) : (st i).g ≤ (st (i + 1)).g ∧ (st (i + 1)).g ≤ (st i).g + 1 := by
  rw [h.next]; unfold Ls.step; simp only; repeat' split
  all_goals omega
theorem S1 (h : Run k e rb ra st) (i : Nat) : (st i).S ≤ (st (i + 1)).S ∧ (st i).r1 k ≤ (st (i + 1)).S := by
  rw [h.next]; unfold Ls.step; simp only
  omega
theorem A_le (h : Run k e rb ra st) {a b : Nat} (hab : a ≤ b) : (st a).A ≤ (st b).A := up_le (F := fun i => (st i).A) (fun i => (h.A1 i).1) hab
theorem B_le (h : Run k e rb ra st) {a b : Nat} (hab : a ≤ b) : (st a).B ≤ (st b).B := up_le (F := fun i => (st i).B) (fun i => (h.B1 i).1) hab
theorem g_le (h : Run k e rb ra st) {a b : Nat} (hab : a ≤ b) : (st a).g ≤ (st b).g := up_le (F := fun i => (st i).g) (fun i => (h.g1 i).1) hab
theorem S_le (h : Run k e rb ra st) {a b : Nat} (hab : a ≤ b) : (st a).S ≤ (st b).S := up_le (F := fun i => (st i).S) (fun i => (h.S1 i).1) hab

/-- The indicators: never more than one turn apart, whatever is under way. -/
theorem turns (h : Run k e rb ra st) (i : Nat) : (st i).A ≤ (st (i - e)).B ∧ (st i).B ≤ (st (i - e)).A + 1 ∧ ((st i).B = (st (i - e)).A + 1 → (st i).ask = true) := by
  induction i with
  | zero => rw [Nat.zero_sub, h.zero]; simp [l0]
  | succ i ih =>
    obtain ⟨i1, i2, i3⟩ := ih
    have mA := h.A_le (Nat.sub_le i e)
    have mB := h.B_le (Nat.sub_le i e)
    by_cases hi : i < e
    · obtain ⟨e1, e2⟩ := h.early i hi
      have : i + 1 - e = i - e := by omega
      rw [this, h.next i]
      unfold Ls.step
      simp only [e1, e2, Bool.false_eq_true, if_false]
      exact ⟨i1, i2, i3⟩
    · have hoe : i + 1 - e = (i - e) + 1 := by omega
      rw [hoe]
      have oA := (h.A1 (i - e)).1
      have oB := (h.B1 (i - e)).1
      generalize st (i - e + 1) = o1 at *
      rw [h.next i]
      generalize st (i - e) = o at *
      generalize st i = s at *
      refine ⟨?_, ?_, ?_⟩
      · unfold Ls.step; simp only; repeat' split
        all_goals omega
      · unfold Ls.step; simp only; repeat' split
        all_goals omega
      · unfold Ls.step; simp only; repeat' split
        all_goals (first | (intro _; rfl) | skip)
        all_goals (intro hh; first | (exact i3 (by omega)) | (exfalso; omega))

/-- So the two are at most one turn apart at any time. -/
theorem near (h : Run k e rb ra st) (i : Nat) : (st i).A ≤ (st i).B ∧ (st i).B ≤ (st i).A + 1 := by
  obtain ⟨h1, h2, -⟩ := h.turns i
  have := h.A_le (Nat.sub_le i e)
  have := h.B_le (Nat.sub_le i e)
  omega

/-- What is counted. -/
theorem counts (h : Run k e rb ra st) (i : Nat) : (st i).f ≤ (st (i - e)).g ∧ (st i).g ≤ (st (i - e)).S ∧ (st i).r ≤ (st i).S ∧ (st i).S ≤ k := by
  induction i with
  | zero => rw [Nat.zero_sub, h.zero]; simp [l0]
  | succ i ih =>
    obtain ⟨i1, i2, i3, i4⟩ := ih
    have mg := h.g_le (Nat.sub_le i e)
    have mS := h.S_le (Nat.sub_le i e)
    have hr1 : (st i).r1 k ≤ k ∧ (st i).r ≤ (st i).r1 k := by unfold Ls.r1; split <;> omega
    by_cases hi : i < e
    · obtain ⟨e1, e2⟩ := h.early i hi
      have : i + 1 - e = i - e := by omega
      rw [this, h.next i]
      unfold Ls.step
      simp only [e1, e2, Bool.false_eq_true, if_false]
      exact ⟨i1, i2, by omega, by omega⟩
    · have hoe : i + 1 - e = (i - e) + 1 := by omega
      rw [hoe]
      have og := (h.g1 (i - e)).1
      have oS := h.S1 (i - e)
      have ogS : (st (i - e)).g ≤ (st i).S := Nat.le_trans mg (Nat.le_trans i2 mS)
      have orr : (st (i - e)).r < k → (st (i - e)).r + 1 = (st (i - e)).r1 k := fun hh => by unfold Ls.r1; rw [if_pos hh]
      generalize st (i - e + 1) = o1 at *
      rw [h.next i]
      generalize st (i - e) = o at *
      generalize st i = s at *
      refine ⟨?_, ?_, ?_, ?_⟩
      · unfold Ls.step; simp only; split <;> omega
      · unfold Ls.step; simp only; repeat' split
        all_goals (first | omega | (rename_i h1 h2; have := orr h2.1; omega))
      · unfold Ls.step; simp only; repeat' split
        all_goals omega
      · unfold Ls.step; simp only
        omega
end Run
end Go.Proofs.Ytdngcfojodahdaa.Tape
