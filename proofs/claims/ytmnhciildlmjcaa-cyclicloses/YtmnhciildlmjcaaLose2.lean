/- The cyclic method over two lines that lose units: at last all is taken, and answered; no walk here. -/
import Derived.Test.YtmnhciildlmjcaaLose1
namespace Go.Proofs.Ytmnhciildlmjcaa.Tape
set_option linter.unusedVariables false

namespace Run
variable {k c e L : Nat} {rb ra : Nat → Bool} {st : Nat → Ls}

/-- Where nothing is lost any more one more is taken, some rounds later. -/
theorem one_more (h : Run k c e rb ra st) (hc : 1 ≤ c) (hc2 : c ≤ 12) (hl : ∀ i, L ≤ i → e ≤ i → rb i = true ∧ ra i = true) (i : Nat) (hi : L ≤ i) (hg : (st i).g < k) : (st i).g < (st (i + (2 * e + 26))).g := by
  obtain ⟨g0, hg0⟩ : ∃ g0, g0 = (st i).g := ⟨_, rfl⟩
  rw [← hg0] at hg ⊢
  have hge := h.g_le (a := i) (b := i + (2 * e + 26)) (by omega)
  by_cases hno : g0 < (st (i + (2 * e + 26))).g
  · exact hno
  exfalso
  have hgc : ∀ t, i ≤ t → t ≤ i + (2 * e + 26) → (st t).g = g0 := fun t h1 h2 => by
    have a := h.g_le h1
    have b := h.g_le h2
    omega
  have hf : ∀ j, i + e + 1 ≤ j → j ≤ i + (2 * e + 26) → (st j).f = g0 := fun j h1 h2 => by
    obtain ⟨j', rfl⟩ : ∃ j', j = j' + 1 := ⟨j - 1, by omega⟩
    rw [h.next j']
    unfold Ls.step
    simp only [(hl j' (by omega) (by omega)).2, if_true]
    exact hgc _ (by omega) (by omega)
  have ho : ∀ t, i ≤ t → t + e + 1 ≤ i + (2 * e + 26) → (st t).out k c ≠ some g0 := fun t h1 h2 hh => by
    have hn := h.next (t + e)
    rw [show t + e - e = t by omega] at hn
    have e1 : (st (t + e + 1)).g = g0 + 1 := by
      rw [hn]
      unfold Ls.step
      simp only [(hl (t + e) (by omega) (by omega)).1, hgc (t + e) (by omega) (by omega), hh, true_and, if_true]
    have := hgc (t + e + 1) (by omega) h2
    omega
  have hstep : ∀ j, i + e + 1 ≤ j → j + 1 ≤ i + (2 * e + 26) → (st (j + 1)).S = ((st j).sent k c).S ∧ (st (j + 1)).P = ((st j).sent k c).P ∧ (st (j + 1)).fo = ((st j).sent k c).fo := fun j h1 h2 => by
    have hs := sent_S (h.fine j)
    have e1 := hf j h1 (by omega)
    have e2 := hgc (j - e) (by omega) (by omega)
    have hn := h.next j
    refine ⟨by rw [hn]; rfl, ?_, by rw [hn]; rfl⟩
    rw [hn]
    unfold Ls.step
    simp only [(hl j (by omega) (by omega)).2, if_true]
    omega
  have hS0 : g0 < (st (i + e + 1)).S := by
    have hfi := h.fine (i + e + 1)
    have e0 := hf (i + e + 1) (by omega) (by omega)
    by_cases hS : g0 < (st (i + e + 1)).S
    · exact hS
    exfalso
    have hfi' := hfi
    obtain ⟨f1, f2, f3, f4⟩ := hfi'
    have n0 := ho (i + e + 1) (by omega) (by omega)
    rcases sent_ways hfi with ⟨a1, a2, a3, a4⟩ | ⟨b, a1, a2, a3⟩ | ⟨a1, a2, a3, a4⟩ | ⟨a1, a2, a3, a4⟩
    · exact n0 (by rw [a2]; congr 1; omega)
    · omega
    · omega
    · obtain ⟨s1, s2, s3⟩ := hstep (i + e + 1) (by omega) (by omega)
      rw [a1] at s1 s3
      simp only at s1 s3
      have hm : (st (i + e + 1)).mu k c = false := by
        rw [← Bool.not_eq_true, mu_iff]
        omega
      rw [hm] at s3
      have e1 := hf (i + e + 1 + 1) (by omega) (by omega)
      have n1 := ho (i + e + 1 + 1) (by omega) (by omega)
      have hm1 : (st (i + e + 1 + 1)).mu k c = false := by
        rw [← Bool.not_eq_true, mu_iff]
        omega
      refine n1 ?_
      unfold Ls.out
      rw [s3, hm1, if_neg (by decide), if_pos (by omega)]
      congr 1
      omega
  have hm : ∀ n, n ≤ 24 → 2 * g0 + 1 + n ≤ (st (i + e + 1 + n)).S + (st (i + e + 1 + n)).P ∧ g0 < (st (i + e + 1 + n)).S := fun n => by
    induction n with
    | zero =>
      intro _
      have hfi := h.fine (i + e + 1)
      have e0 := hf (i + e + 1) (by omega) (by omega)
      have := hfi.fP
      simp only [Nat.add_zero]
      omega
    | succ n ih =>
      intro hn
      obtain ⟨i1, i2⟩ := ih (by omega)
      obtain ⟨s1, s2, -⟩ := hstep (i + e + 1 + n) (by omega) (by omega)
      have hfi := h.fine (i + e + 1 + n)
      have e0 := hf (i + e + 1 + n) (by omega) (by omega)
      have n0 := ho (i + e + 1 + n) (by omega) (by omega)
      rw [show i + e + 1 + (n + 1) = i + e + 1 + n + 1 by omega, s1, s2]
      rcases sent_ways hfi with ⟨a1, a2, a3, a4⟩ | ⟨b, a1, a2, a3⟩ | ⟨a1, a2, a3, a4⟩ | ⟨a1, a2, a3, a4⟩
      · rw [a1]; simp only; omega
      · rw [a1]; simp only; omega
      · exact absurd (by rw [a2]; congr 1) n0
      · omega
  obtain ⟨m1, -⟩ := hm 24 (Nat.le_refl _)
  have hfi := h.fine (i + e + 1 + 24)
  have e0 := hf (i + e + 1 + 24) (by omega) (by omega)
  have a1 := hfi.PS
  have a2 := hfi.cap
  omega

theorem many (h : Run k c e rb ra st) (hc : 1 ≤ c) (hc2 : c ≤ 12) (hl : ∀ i, L ≤ i → e ≤ i → rb i = true ∧ ra i = true) : ∀ j, j ≤ k → j ≤ (st (L + j * (2 * e + 26))).g
  | 0, _ => Nat.zero_le _
  | j + 1, hj => by
    have ih := many h hc hc2 hl j (by omega)
    rw [Nat.succ_mul, ← Nat.add_assoc]
    by_cases hlt : (st (L + j * (2 * e + 26))).g < k
    · have := h.one_more hc hc2 hl (L + j * (2 * e + 26)) (by omega) hlt
      omega
    · have := h.g_le (a := L + j * (2 * e + 26)) (b := L + j * (2 * e + 26) + (2 * e + 26)) (by omega)
      omega

/-- At last all is taken, and answered. -/
theorem at_last (h : Run k c e rb ra st) (hc : 1 ≤ c) (hc2 : c ≤ 12) (hl : ∀ i, L ≤ i → e ≤ i → rb i = true ∧ ra i = true) (hk : k < 20) (he : e ≤ 5) (n : Nat) (hn : L + 800 ≤ n) : (st n).g = k ∧ (st n).f = k ∧ (st n).S = k := by
  have hm := h.many hc hc2 hl k (Nat.le_refl _)
  have hb : L + k * (2 * e + 26) ≤ L + 684 := by
    have : k * (2 * e + 26) ≤ 19 * 36 := Nat.mul_le_mul (by omega) (by omega)
    omega
  have hgk : ∀ t, L + 684 ≤ t → (st t).g = k := fun t ht => by
    have a := h.g_le (a := L + k * (2 * e + 26)) (b := t) (by omega)
    have b := (h.counts t).2
    have d := (h.fine (t - e)).Sk
    omega
  have hS := h.fine n
  obtain ⟨j, rfl⟩ : ∃ j, n = j + 1 := ⟨n - 1, by omega⟩
  have hf : (st (j + 1)).f = k := by
    rw [h.next j]
    unfold Ls.step
    simp only [(hl j (by omega) (by omega)).2, if_true]
    exact hgk _ (by omega)
  refine ⟨hgk _ (by omega), hf, ?_⟩
  have := hS.fP
  have := hS.PS
  have := hS.Sk
  omega
end Run
end Go.Proofs.Ytmnhciildlmjcaa.Tape
