/- The cyclic method over two lines that lose units: plain facts of numbers; no walk here. -/
import Derived.Test.YtmnhciildlmjcaaBase
namespace Go.Proofs.Ytmnhciildlmjcaa.Tape
set_option linter.unusedVariables false

/-- What the two sides have: of a's messages how many were answered (f), sent (S); which one is sent again next (P), and whether it must be (fo); how many b took (g). -/
structure Ls where
  f : Nat
  S : Nat
  P : Nat
  g : Nat
  fo : Bool
/-- At first. -/
def l0 : Ls := ⟨0, 0, 0, 0, false⟩
/-- Is there a new one that doesn't fit? -/
def Ls.mu (k c : Nat) (s : Ls) : Bool := decide (s.S < k ∧ c ≤ s.S - s.f)
/-- a sends: again, or a new one. -/
def Ls.ag (k c : Nat) (s : Ls) : Ls :=
  if s.P < s.S then { s with P := s.P + 1, fo := s.fo || s.mu k c } else { s with P := if s.f < s.S then s.f + 1 else s.f, fo := s.mu k c }
def Ls.sent (k c : Nat) (s : Ls) : Ls := if (s.fo || s.mu k c) = true then s.ag k c else if s.S < k then { s with S := s.S + 1 } else s.ag k c
/-- .. which message. -/
def Ls.oa (s : Ls) : Option Nat := if s.P < s.S then some s.P else if s.f < s.S then some s.f else none
def Ls.out (k c : Nat) (s : Ls) : Option Nat := if (s.fo || s.mu k c) = true then s.oa else if s.S < k then some s.S else s.oa
/-- A round: a and b send; then b gets (rb), or not, what a sent in the state o, and a gets (ra) what b sent then. -/
def Ls.step (k c : Nat) (rb ra : Bool) (s o : Ls) : Ls where
  f := if ra then o.g else s.f
  S := (s.sent k c).S
  P := if ra then max (s.sent k c).P o.g else (s.sent k c).P
  fo := (s.sent k c).fo
  g := if rb = true ∧ o.out k c = some s.g then s.g + 1 else s.g

/-- The states, one behind the other; a unit is under way for e rounds. -/
structure Run (k c e : Nat) (rb ra : Nat → Bool) (st : Nat → Ls) : Prop where
  zero : st 0 = l0
  next : ∀ i, st (i + 1) = (st i).step k c (rb i) (ra i) (st (i - e))
  early : ∀ i, i < e → rb i = false ∧ ra i = false

/-- Within the bounds. -/
structure Ls.Fine (k c : Nat) (s : Ls) : Prop where
  fP : s.f ≤ s.P
  PS : s.P ≤ s.S
  Sk : s.S ≤ k
  cap : s.S - s.f ≤ c

theorem up_le {F : Nat → Nat} (h : ∀ i, F i ≤ F (i + 1)) {a b : Nat} (hab : a ≤ b) : F a ≤ F b := by
  induction b with
  | zero => rw [Nat.le_zero.1 hab]; exact Nat.le_refl _
  | succ b ih =>
    by_cases e : a = b + 1
    · rw [e]; exact Nat.le_refl _
    · exact Nat.le_trans (ih (by omega)) (h b)

theorem mu_iff {k c : Nat} {s : Ls} : s.mu k c = true ↔ s.S < k ∧ c ≤ s.S - s.f := by unfold Ls.mu; exact decide_eq_true_iff

/-- What a sends: by its three ways. -/
theorem sent_ways {k c : Nat} {s : Ls} (h : s.Fine k c) :
    ((s.sent k c) = { s with S := s.S + 1 } ∧ s.out k c = some s.S ∧ s.S < k ∧ s.S - s.f < c ∧ s.fo = false) ∨
    (∃ b, (s.sent k c) = { s with P := s.P + 1, fo := b } ∧ s.out k c = some s.P ∧ s.P < s.S) ∨
    ((s.sent k c) = { s with P := s.f + 1, fo := s.mu k c } ∧ s.out k c = some s.f ∧ s.P = s.S ∧ s.f < s.S) ∨
    ((s.sent k c) = { s with P := s.f, fo := s.mu k c } ∧ s.out k c = none ∧ s.P = s.S ∧ s.f = s.S) := by
  obtain ⟨h1, h2, h3, h4⟩ := h
  have key : ((s.ag k c) = { s with P := s.P + 1, fo := s.fo || s.mu k c } ∧ s.oa = some s.P ∧ s.P < s.S) ∨ ((s.ag k c) = { s with P := s.f + 1, fo := s.mu k c } ∧ s.oa = some s.f ∧ s.P = s.S ∧ s.f < s.S) ∨ ((s.ag k c) = { s with P := s.f, fo := s.mu k c } ∧ s.oa = none ∧ s.P = s.S ∧ s.f = s.S) := by
    unfold Ls.ag Ls.oa
    by_cases hp : s.P < s.S
    · rw [if_pos hp, if_pos hp]
      exact .inl ⟨rfl, rfl, hp⟩
    · rw [if_neg hp, if_neg hp]
      by_cases hf : s.f < s.S
      · rw [if_pos hf, if_pos hf]
        exact .inr (.inl ⟨rfl, rfl, by omega, hf⟩)
      · rw [if_neg hf, if_neg hf]
        exact .inr (.inr ⟨rfl, rfl, by omega, by omega⟩)
  unfold Ls.sent Ls.out
  by_cases hc : (s.fo || s.mu k c) = true
  · rw [if_pos hc, if_pos hc]
    rcases key with ⟨a, b, d⟩ | key | key
    · exact .inr (.inl ⟨_, a, b, d⟩)
    · exact .inr (.inr (.inl key))
    · exact .inr (.inr (.inr key))
  · rw [if_neg hc, if_neg hc]
    by_cases hk : s.S < k
    · rw [if_pos hk, if_pos hk]
      have hc' : s.fo = false ∧ s.mu k c = false := by simpa using hc
      have : ¬ (s.S < k ∧ c ≤ s.S - s.f) := fun e => by
        have := mu_iff.2 e
        rw [hc'.2] at this
        exact absurd this (by decide)
      exact .inl ⟨rfl, rfl, hk, by omega, hc'.1⟩
    · rw [if_neg hk, if_neg hk]
      rcases key with ⟨a, b, d⟩ | key | key
      · exact .inr (.inl ⟨_, a, b, d⟩)
      · exact .inr (.inr (.inl key))
      · exact .inr (.inr (.inr key))

/-- What is sent lies among those that were sent, or is the next one. -/
theorem out_in {k c i : Nat} {s : Ls} (h : s.Fine k c) (ho : s.out k c = some i) : s.f ≤ i ∧ i < (s.sent k c).S ∧ i < k := by
  have h' := h
  obtain ⟨h1, h2, h3, h4⟩ := h
  rcases sent_ways h' with ⟨e1, e2, e3, e4⟩ | ⟨b, e1, e2, e3⟩ | ⟨e1, e2, e3, e4⟩ | ⟨e1, e2, e3, e4⟩
  all_goals
    rw [e2] at ho
    first
    | (cases ho; done)
    | (simp only [Option.some.injEq] at ho
       rw [e1]
       refine ⟨?_, ?_, ?_⟩ <;> first | omega | (simp only; omega))

theorem sent_S {k c : Nat} {s : Ls} (h : s.Fine k c) : s.S ≤ (s.sent k c).S ∧ (s.sent k c).S ≤ k ∧ (s.sent k c).S - s.f ≤ c ∧ s.f ≤ (s.sent k c).P ∧ (s.sent k c).P ≤ (s.sent k c).S ∧ (s.sent k c).f = s.f ∧ (s.sent k c).g = s.g := by
  have h' := h
  obtain ⟨h1, h2, h3, h4⟩ := h
  rcases sent_ways h' with ⟨e1, e2, e3, e4⟩ | ⟨b, e1, e2, e3⟩ | ⟨e1, e2, e3, e4⟩ | ⟨e1, e2, e3, e4⟩
  all_goals
    rw [e1]
    refine ⟨?_, ?_, ?_, ?_, ?_, ?_, ?_⟩ <;> first | rfl | (simp only; omega)

namespace Run
variable {k c e : Nat} {rb ra : Nat → Bool} {st : Nat → Ls}

theorem g1 (h : Run k c e rb ra st) (i : Nat) : (st i).g ≤ (st (i + 1)).g ∧ (st (i + 1)).g ≤ (st i).g + 1 := by
  rw [h.next]; unfold Ls.step; simp only; split <;> omega
theorem g_le (h : Run k c e rb ra st) {a b : Nat} (hab : a ≤ b) : (st a).g ≤ (st b).g := up_le (F := fun i => (st i).g) (fun i => (h.g1 i).1) hab

/-- What holds at any time. -/
theorem all (h : Run k c e rb ra st) : ∀ n i, i ≤ n → (st i).Fine k c ∧ (st i).f ≤ (st (i - e)).g ∧ (st i).g ≤ (st (i - e)).S ∧ (∀ j, j ≤ i → (st j).S ≤ (st i).S)
  | 0, i, hi => by
    obtain rfl : i = 0 := by omega
    rw [Nat.zero_sub, h.zero]
    refine ⟨⟨by simp [l0], by simp [l0], by simp [l0], by simp [l0]⟩, by simp [l0], by simp [l0], fun j hj => ?_⟩
    obtain rfl : j = 0 := by omega
    rw [h.zero]
    exact Nat.le_refl _
  | n + 1, i, hi => by
    by_cases hin : i ≤ n
    · exact all h n i hin
    · obtain rfl : i = n + 1 := by omega
      obtain ⟨i1, i2, i3, i4⟩ := all h n n (Nat.le_refl _)
      obtain ⟨o1, -, -, -⟩ := all h n (n - e) (Nat.sub_le n e)
      have mg := h.g_le (Nat.sub_le n e)
      have mS := i4 _ (Nat.sub_le n e)
      have hs := sent_S i1
      have hSn : (st (n + 1)).S = ((st n).sent k c).S := by rw [h.next]; rfl
      have hmono : ∀ j, j ≤ n + 1 → (st j).S ≤ (st (n + 1)).S := fun j hj => by
        by_cases hj' : j ≤ n
        · have := i4 j hj'; omega
        · obtain rfl : j = n + 1 := by omega
          exact Nat.le_refl _
      have hgS : (st (n - e)).g ≤ (st n).S := by omega
      have hgf : (st n).f ≤ (st n).g := by omega
      by_cases he : n < e
      · obtain ⟨e1, e2⟩ := h.early n he
        have : n + 1 - e = n - e := by omega
        rw [this]
        refine ⟨⟨?_, ?_, ?_, ?_⟩, ?_, ?_, hmono⟩
        all_goals
          rw [h.next n]
          unfold Ls.step
          simp only [e1, e2, Bool.false_eq_true, false_and, if_false]
          omega
      · have hoe : n + 1 - e = (n - e) + 1 := by omega
        rw [hoe]
        have og := (h.g1 (n - e)).1
        have ofn : (st n).f ≤ (st (n - e)).g := i2
        have oS : (st ((n - e) + 1)).S = ((st (n - e)).sent k c).S := by rw [h.next]; rfl
        have oss := sent_S o1
        have ogg : ∀ i, (st (n - e)).out k c = some i → i < (st ((n - e) + 1)).S := fun i hi => by rw [oS]; exact (out_in o1 hi).2.1
        have hgS1 : (st n).g ≤ (st ((n - e) + 1)).S := by omega
        refine ⟨⟨?_, ?_, ?_, ?_⟩, ?_, ?_, hmono⟩
        · rw [h.next n]; unfold Ls.step; simp only; split <;> omega
        · rw [h.next n]; unfold Ls.step; simp only; split <;> omega
        · rw [h.next n]; unfold Ls.step; simp only; omega
        · rw [h.next n]; unfold Ls.step; simp only; split <;> omega
        · have : (st (n + 1)).f ≤ (st (n - e)).g := by rw [h.next n]; unfold Ls.step; simp only; split <;> omega
          omega
        · have : (st (n + 1)).g ≤ (st ((n - e) + 1)).S := by
            rw [h.next n]
            unfold Ls.step
            simp only
            split
            · rename_i hh
              have := ogg _ hh.2
              omega
            · exact hgS1
          exact this

theorem fine (h : Run k c e rb ra st) (i : Nat) : (st i).Fine k c := (h.all i i (Nat.le_refl _)).1
theorem counts (h : Run k c e rb ra st) (i : Nat) : (st i).f ≤ (st (i - e)).g ∧ (st i).g ≤ (st (i - e)).S := ⟨(h.all i i (Nat.le_refl _)).2.1, (h.all i i (Nat.le_refl _)).2.2.1⟩
theorem S_le (h : Run k c e rb ra st) {a b : Nat} (hab : a ≤ b) : (st a).S ≤ (st b).S := (h.all b b (Nat.le_refl _)).2.2.2 a hab
end Run
end Go.Proofs.Ytmnhciildlmjcaa.Tape
