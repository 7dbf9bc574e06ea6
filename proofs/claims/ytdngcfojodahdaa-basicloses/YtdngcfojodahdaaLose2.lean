/- Over lines that lose nothing any more all comes: plain facts of numbers; no walk here. -/
import Derived.Test.YtdngcfojodahdaaLose1
namespace Go.Proofs.Ytdngcfojodahdaa.Tape
set_option linter.unusedVariables false
namespace Run
variable {k e : Nat} {rb ra : Nat → Bool} {st : Nat → Ls}

/-- A unit whose indicator isn't right changes nothing that b took. -/
theorem stale (h : Run k e rb ra st) (i : Nat) (hs : (st (i - e)).A % 2 ≠ (st i).B % 2) : (st (i + 1)).g = (st i).g ∧ (st (i + 1)).B = (st i).B := by
  rw [h.next i]
  unfold Ls.step
  simp only [if_neg hs]
  constructor <;> split <;> rfl

/-- While a's turns are fewer nothing is taken. -/
theorem frozen (h : Run k e rb ra st) (a : Nat) : ∀ d, (∀ j, a ≤ j → j < a + d → (st j).A + 1 = (st j).B ∧ (st j).A = (st (j - e)).A) → (st (a + d)).g = (st a).g
  | 0, _ => rfl
  | d + 1, hj => by
    have ih := frozen h a d (fun j h1 h2 => hj j h1 (by omega))
    obtain ⟨h1, h2⟩ := hj (a + d) (by omega) (by omega)
    have := (h.stale (a + d) (by omega)).1
    rw [← ih, ← this]
    rfl

/-- a's indicator is turned in a round: what is known then. -/
theorem adopt (h : Run k e rb ra st) (i : Nat) (hA : (st (i + 1)).A = (st i).A + 1) : (st i).B = (st i).A + 1 ∧ (st (i + 1)).B = (st i).B ∧ (st (i + 1)).g = (st i).g ∧ (st (i + 1)).r = (st i).g ∧ (st (i - e)).g = (st i).g := by
  obtain ⟨t1, t2, -⟩ := h.turns i
  have mA := h.A_le (Nat.sub_le i e)
  have mB := h.B_le (Nat.sub_le i e)
  have hn := h.next i
  have key : (st (i - e)).B % 2 ≠ (st i).A % 2 ∧ (st (i + 1)).r = (st (i - e)).g := by
    rw [hn] at hA ⊢
    unfold Ls.step at hA ⊢
    simp only at hA ⊢
    split at hA
    · rename_i hra
      split at hA
      · omega
      · rename_i hne
        simp only [hra, if_true, if_neg hne]
        exact ⟨hne, trivial⟩
    · omega
  obtain ⟨k1, k2⟩ := key
  have hB : (st i).B = (st i).A + 1 := by omega
  have hst := h.stale i (by omega)
  have hfz : (st (i - e)).g = (st i).g := by
    have := h.frozen (i - e) (i - (i - e)) (fun j h1 h2 => by
      have a1 := h.A_le (show j ≤ i by omega)
      have a2 := h.A_le (Nat.sub_le j e)
      have b1 := h.B_le (show i - e ≤ j by omega)
      have b2 := h.B_le (show j ≤ i by omega)
      obtain ⟨-, c2, -⟩ := h.turns j
      omega)
    rw [show i - e + (i - (i - e)) = i by omega] at this
    exact this.symm
  exact ⟨hB, hst.2, hst.1, by rw [k2, hfz], hfz⟩

/-- b has never taken what a hasn't come to. -/
theorem ahead (h : Run k e rb ra st) (i : Nat) : (st i).g ≤ (st i).r ∧ (∀ j, i - e ≤ j → j ≤ i → (st j).A = (st i).B → (st i).g ≤ (st j).r) ∧ ((st (i + 1)).A = (st i).A → (st (i + 1)).r = (st i).r1 k) ∧
    (∀ a b, a ≤ b → b ≤ i → (st a).A = (st b).A → (st a).r ≤ (st b).r ∧ (a < b → (st a).r1 k ≤ (st b).r)) := by
  have hr1 : ∀ s : Ls, s.r ≤ s.r1 k := fun s => by unfold Ls.r1; split <;> omega
  -- the round behind, once b isn't ahead
  have hex : ∀ i, (st i).g ≤ (st i).r → (st (i + 1)).A = (st i).A → (st (i + 1)).r = (st i).r1 k := fun i hg hA => by
    have mg := h.g_le (Nat.sub_le i e)
    have := hr1 (st i)
    rw [h.next i] at hA ⊢
    unfold Ls.step at hA ⊢
    simp only at hA ⊢
    repeat' split
    all_goals first | omega | (split at hA <;> first | omega | (split at hA <;> omega)) | rfl
  induction i with
  | zero =>
    have hz := h.zero
    have g0 : (st 0).g ≤ (st 0).r := by rw [hz]; simp [l0]
    refine ⟨g0, fun j h1 h2 h3 => ?_, hex 0 g0, fun a b ha hb _ => ?_⟩
    · obtain rfl : j = 0 := by omega
      exact g0
    · obtain rfl : b = 0 := by omega
      obtain rfl : a = 0 := by omega
      exact ⟨Nat.le_refl _, fun hh => by omega⟩
  | succ i ih =>
    obtain ⟨i1, i2, i3, i4⟩ := ih
    have mA := h.A_le (Nat.sub_le i e)
    have mB := h.B_le (Nat.sub_le i e)
    obtain ⟨t1, t2, -⟩ := h.turns i
    have n1 := h.near i
    have n2 := h.near (i + 1)
    have A1 := h.A1 i
    have B1 := h.B1 i
    have G1 := h.g1 i
    have ad := h.adopt i
    -- what b took in the round
    have took : (st (i + 1)).g = (st i).g ∨ (e ≤ i ∧ (st (i + 1)).g = (st i).g + 1 ∧ (st (i - e)).A = (st i).B ∧ (st (i - e)).r = (st i).g ∧ (st (i - e)).r < k ∧ (st (i + 1)).B = (st i).B) := by
      by_cases hi : i < e
      · obtain ⟨e1, e2⟩ := h.early i hi
        left
        rw [h.next i]; unfold Ls.step; simp [e1]
      · rw [h.next i]; unfold Ls.step; simp only
        by_cases hrb : rb i = true
        · by_cases hf : (st (i - e)).A % 2 = (st i).B % 2
          · by_cases ht : (st (i - e)).r < k ∧ (st (i - e)).r = (st i).g
            · right
              rw [if_pos hrb, if_pos hf, if_pos ht, if_pos hrb, if_pos hf, if_pos ht]
              exact ⟨by omega, rfl, by omega, ht.2, ht.1, rfl⟩
            · left
              simp [hf, ht]
          · left
            simp [hf]
        · left
          simp [hrb]
    have rlt : ∀ s : Ls, s.r < k → s.r1 k = s.r + 1 := fun s hh => by unfold Ls.r1; rw [if_pos hh]
    -- within a turn
    have hep : ∀ a, a ≤ i + 1 → (st a).A = (st (i + 1)).A → (st a).r ≤ (st (i + 1)).r ∧ (a < i + 1 → (st a).r1 k ≤ (st (i + 1)).r) := fun a ha hA => by
      by_cases hai : a = i + 1
      · rw [hai]
        exact ⟨Nat.le_refl _, fun hh => by omega⟩
      · have c1 := h.A_le (show a ≤ i by omega)
        have e3 := i3 (by omega)
        obtain ⟨d1, d2⟩ := i4 a i (by omega) (Nat.le_refl _) (by omega)
        have := hr1 (st i)
        refine ⟨by omega, fun _ => ?_⟩
        by_cases hai2 : a = i
        · rw [e3, hai2]; exact Nat.le_refl _
        · have := d2 (by omega)
          omega
    have hgr : (st (i + 1)).g ≤ (st (i + 1)).r := by
      by_cases hA : (st (i + 1)).A = (st i).A
      · have e3 := i3 hA
        have := hr1 (st i)
        rcases took with e4 | ⟨hei, e4, e5, e6, e7, e8⟩
        · omega
        · have := rlt _ e7
          have := (hep (i - e) (by omega) (by omega)).2 (by omega)
          omega
      · obtain ⟨b1, b2, b3, b4, b5⟩ := ad (by omega)
        omega
    refine ⟨hgr, fun j h1 h2 h3 => ?_, hex (i + 1) hgr, fun a b hab hb hA => ?_⟩
    · by_cases hj : j = i + 1
      · rw [hj]; exact hgr
      · have hB : (st (i + 1)).B = (st i).B := by
          have c1 := h.A_le (show j ≤ i by omega)
          omega
        have r2 := i2 j (by omega) (by omega) (by omega)
        rcases took with e4 | ⟨hei, e4, e5, e6, e7, e8⟩
        · omega
        · have := rlt _ e7
          have := (i4 (i - e) j (by omega) (by omega) (by omega)).2 (by omega)
          omega
    · by_cases hb1 : b = i + 1
      · rw [hb1] at hA hab ⊢
        exact hep a hab hA
      · exact i4 a b hab (by omega) hA

theorem next_r (h : Run k e rb ra st) (i : Nat) (hA : (st (i + 1)).A = (st i).A) : (st (i + 1)).r = (st i).r1 k := (h.ahead i).2.2.1 hA

/-- What is under way with the right indicator is what b waits for, and all behind it. -/
def Good (st : Nat → Ls) (e t : Nat) : Prop := (st t).A = (st t).B ∧ ∃ j, t - e ≤ j ∧ j ≤ t ∧ (st j).A = (st t).B ∧ (∀ i, t - e ≤ i → i < j → (st i).A < (st t).B) ∧ (st j).r = (st t).g

/-- Behind a time from which on nothing is lost. -/
theorem good_next (h : Run k e rb ra st) {L : Nat} (hL : ∀ i, L ≤ i → rb i = true ∧ ra i = true) {t : Nat} (ht : L ≤ t) (hg : Good st e t) : Good st e (t + 1) ∧ (st (t + 1)).A = (st t).A := by
  obtain ⟨hAB, j, j1, j2, j3, j4, j5⟩ := hg
  obtain ⟨hrb, hra⟩ := hL t ht
  have het : e ≤ t := by
    by_cases c : t < e
    · have := (h.early t c).1
      rw [hrb] at this
      cases this
    · omega
  obtain ⟨t1, t2, -⟩ := h.turns t
  have mA := h.A_le (Nat.sub_le t e)
  have mB := h.B_le (Nat.sub_le t e)
  have n2 := h.near (t + 1)
  have A1 := h.A1 t
  have B1 := h.B1 t
  have ad := h.adopt t
  have rk := (h.counts (t - e)).2.2
  have hA : (st (t + 1)).A = (st t).A := by
    by_cases c : (st (t + 1)).A = (st t).A + 1
    · have := (ad c).1
      omega
    · omega
  refine ⟨?_, hA⟩
  by_cases hj : j = t - e
  · -- the unit that comes now is the one that b waits for
    have hfit : (st (t - e)).A % 2 = (st t).B % 2 := by rw [← hj, j3]
    have hB : (st (t + 1)).B = (st t).B ∧ (st (t + 1)).g = (st (t - e)).r1 k := by
      have hr : (st (t - e)).r = (st t).g := by rw [← hj]; exact j5
      rw [h.next t]; unfold Ls.step; simp only
      rw [if_pos hrb, if_pos hfit, if_pos hrb, if_pos hfit]
      by_cases hlt : (st (t - e)).r < k
      · rw [if_pos ⟨hlt, hr⟩, if_pos ⟨hlt, hr⟩]
        unfold Ls.r1
        rw [if_pos hlt]
        exact ⟨rfl, by omega⟩
      · have : (st (t - e)).r1 k = (st t).g := by unfold Ls.r1; rw [if_neg hlt]; exact hr
        rw [if_neg (fun c => hlt c.1), if_pos this, if_neg (fun c => hlt c.1)]
        exact ⟨rfl, this.symm⟩
    have hjA : (st (t - e + 1)).A = (st (t - e)).A := by
      by_cases e0 : t - e = t
      · rw [e0]; exact hA
      · have := h.A_le (show t - e + 1 ≤ t by omega)
        have := (h.A1 (t - e)).1
        rw [hj] at j3
        omega
    refine ⟨by omega, t - e + 1, by omega, by omega, ?_, fun i i1 i2 => by omega, ?_⟩
    · rw [hjA, hB.1, ← hj]; exact j3
    · rw [h.next_r (t - e) hjA, hB.2]
  · have hs := j4 (t - e) (Nat.le_refl _) (by omega)
    have hst := h.stale t (by omega)
    exact ⟨by omega, j, by omega, by omega, by rw [hst.2]; exact j3, fun i i1 i2 => by rw [hst.2]; exact j4 i (by omega) i2, by rw [hst.1]; exact j5⟩

theorem good_on (h : Run k e rb ra st) {L : Nat} (hL : ∀ i, L ≤ i → rb i = true ∧ ra i = true) {t : Nat} (ht : L ≤ t) (hg : Good st e t) (d : Nat) : Good st e (t + d) ∧ (st (t + d)).A = (st t).A ∧ (st (t + d)).r = min ((st t).r + d) k := by
  induction d with
  | zero => exact ⟨hg, rfl, by have := (h.counts t).2.2; simp only [Nat.add_zero]; omega⟩
  | succ d ih =>
    obtain ⟨h1, h2, h3⟩ := ih
    obtain ⟨g1, g2⟩ := h.good_next hL (show L ≤ t + d by omega) h1
    refine ⟨g1, g2.trans h2, ?_⟩
    have := h.next_r (t + d) g2
    rw [show t + (d + 1) = t + d + 1 by omega, this]
    unfold Ls.r1
    split <;> omega

/-- Where one was asked for again, all is well soon. -/
theorem good_asked (h : Run k e rb ra st) {L : Nat} (hL : ∀ i, L ≤ i → rb i = true ∧ ra i = true) {i : Nat} (hi : L ≤ i) (hBA : (st i).B = (st i).A + 1) : ∃ t, i < t ∧ t ≤ i + e + 1 ∧ Good st e t := by
  have hT : (st i).A < (st (i + (e + 1))).A := by
    have a1 := h.A_le (show i ≤ i + e by omega)
    have A1 := h.A1 (i + e)
    by_cases c : (st i).A < (st (i + e)).A
    · rw [show i + (e + 1) = i + e + 1 by omega]; omega
    · obtain ⟨-, hra⟩ := hL (i + e) (by omega)
      rw [show i + (e + 1) = i + e + 1 by omega, h.next (i + e)]
      unfold Ls.step
      simp only
      rw [if_pos hra, show i + e - e = i by omega, if_neg (by omega)]
      omega
  obtain ⟨t, t1, t2, t3, t4⟩ := first_over (F := fun i => (st i).A) (fun i => (h.A1 i).2) (st i).A (e + 1) i (Nat.le_refl _) hT
  change (st t).A = (st i).A at t3
  change (st (t + 1)).A = (st i).A + 1 at t4
  obtain ⟨b1, b2, b3, b4, b5⟩ := h.adopt t (by omega)
  refine ⟨t + 1, by omega, by omega, by omega, t + 1, by omega, Nat.le_refl _, by omega, fun x x1 x2 => ?_, by omega⟩
  have := h.A_le (show x ≤ t by omega)
  omega

/-- So it is at any time. -/
theorem good_soon (h : Run k e rb ra st) {L : Nat} (hL : ∀ i, L ≤ i → rb i = true ∧ ra i = true) {i : Nat} (hi : L ≤ i) : ∃ t, i ≤ t ∧ t ≤ i + 2 * e + 2 ∧ Good st e t := by
  by_cases hc : ∃ s, i ≤ s ∧ s ≤ i + e + 1 ∧ (st s).B = (st s).A + 1
  · obtain ⟨s, s1, s2, s3⟩ := hc
    obtain ⟨t, t1, t2, t3⟩ := h.good_asked hL (show L ≤ s by omega) s3
    exact ⟨t, by omega, by omega, t3⟩
  · have heq : ∀ s, i ≤ s → s ≤ i + e + 1 → (st s).A = (st s).B := fun s s1 s2 => by
      have := h.near s
      have : ¬ (st s).B = (st s).A + 1 := fun c => hc ⟨s, s1, s2, c⟩
      omega
    have hcon : ∀ d, d ≤ e + 1 → (st (i + d)).A = (st i).A := fun d => by
      induction d with
      | zero => intro _; rfl
      | succ d ih =>
        intro hd
        have e1 := ih (by omega)
        have e2 := heq (i + d) (by omega) (by omega)
        have A1 := h.A1 (i + d)
        by_cases c : (st (i + d + 1)).A = (st (i + d)).A + 1
        · have := (h.adopt (i + d) c).1
          omega
        · rw [show i + (d + 1) = i + d + 1 by omega]
          omega
    have ce := hcon e (by omega)
    have ce1 := hcon (e + 1) (Nat.le_refl _)
    have c1 := hcon 1 (by omega)
    have q0 := heq i (Nat.le_refl _) (by omega)
    have qe := heq (i + e) (by omega) (by omega)
    have qe1 := heq (i + (e + 1)) (by omega) (by omega)
    obtain ⟨hrb, -⟩ := hL (i + e) (by omega)
    have hah := (h.ahead (i + e)).2.1 i (by omega) (by omega) (by omega)
    have rk := (h.counts i).2.2
    have hg : (st (i + (e + 1))).g = (st i).r1 k := by
      have hB : (st (i + e + 1)).B = (st (i + e)).B := by
        rw [show i + e + 1 = i + (e + 1) by omega]; omega
      rw [show i + (e + 1) = i + e + 1 by omega]
      rw [h.next (i + e)] at hB ⊢
      unfold Ls.step at hB ⊢
      simp only at hB ⊢
      rw [show i + e - e = i by omega] at hB ⊢
      rw [if_pos hrb, if_pos (by omega)] at hB ⊢
      by_cases hlt : (st i).r < k
      · have e1 : (st i).r1 k = (st i).r + 1 := by unfold Ls.r1; rw [if_pos hlt]
        by_cases hr : (st i).r = (st (i + e)).g
        · rw [if_pos ⟨hlt, hr⟩]
          omega
        · rw [if_neg (fun c => hr c.2), if_neg (by omega)] at hB
          omega
      · have e1 : (st i).r1 k = (st i).r := by unfold Ls.r1; rw [if_neg hlt]
        rw [if_neg (fun c => hlt c.1)] at hB ⊢
        by_cases hr : (st i).r1 k = (st (i + e)).g
        · exact hr.symm
        · rw [if_neg hr] at hB
          omega
    refine ⟨i + (e + 1), by omega, by omega, qe1, i + 1, by omega, by omega, by omega, fun x x1 x2 => by omega, ?_⟩
    rw [h.next_r i c1, hg]

/-- At last all was taken, and answered. -/
theorem at_last (h : Run k e rb ra st) {L : Nat} (hL : ∀ i, L ≤ i → rb i = true ∧ ra i = true) (N : Nat) (hN : L + 4 * e + k + 4 ≤ N) : (st N).g = k ∧ (st N).f = k ∧ (st N).S = k := by
  obtain ⟨t, t1, t2, hg⟩ := h.good_soon hL (Nat.le_refl L)
  -- from t + k + e on all was taken
  have key : ∀ T, t + k + e ≤ T → (st T).g = k := fun T hT => by
    obtain ⟨⟨g1, j, j1, j2, j3, j4, j5⟩, a1, -⟩ := h.good_on hL t1 hg (T - t)
    obtain ⟨-, a2, r2⟩ := h.good_on hL t1 hg (T - e - t)
    rw [show t + (T - t) = T by omega] at *
    rw [show t + (T - e - t) = T - e by omega] at *
    have : j = T - e := by
      by_cases c : j = T - e
      · exact c
      · have := j4 (T - e) (Nat.le_refl _) (by omega)
        omega
    rw [← j5, this, r2]
    omega
  have hgN := key N (by omega)
  have c := h.counts N
  have hSN := h.S_le (Nat.sub_le N e)
  refine ⟨hgN, ?_, by omega⟩
  obtain ⟨M, rfl⟩ : ∃ M, N = M + 1 := ⟨N - 1, by omega⟩
  obtain ⟨-, hra⟩ := hL M (by omega)
  have := key (M - e) (by omega)
  rw [h.next M]
  unfold Ls.step
  simp only
  rw [if_pos hra]
  exact this
end Run
end Go.Proofs.Ytdngcfojodahdaa.Tape
