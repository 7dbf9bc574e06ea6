/- WayLoses by the cyclic method: what holds at any time, and what is still to do; no walk here. -/
import Derived.Test.YtmjogdhfndnbaaaWLose1
namespace Go.Proofs.Ytmjogdhfndnbaaa.Tape
set_option linter.unusedVariables false

theorem LS.mu_iff {s : LS} : s.mu = true ↔ s.S < s.P ∧ s.f + 8 ≤ s.S := by unfold LS.mu; exact decide_eq_true_iff

/-- What a put leaves. -/
theorem LS.put_parts (k : Nat) (s : LS) : (s.put k).f = s.f ∧ (s.put k).S = s.S ∧ (s.put k).r = s.r ∧ (s.put k).g = s.g ∧ (s.put k).A = s.A ∧ (s.put k).B = s.B ∧ (s.put k).ask = s.ask ∧ (s.put k).fo = s.fo ∧ (s.P < k ∧ s.P < s.f + 16 ∧ (s.put k).P = s.P + 1 ∨ (k ≤ s.P ∨ s.f + 16 ≤ s.P) ∧ (s.put k).P = s.P) := by
  unfold LS.put
  split
  · exact ⟨rfl, rfl, rfl, rfl, rfl, rfl, rfl, rfl, .inl ⟨by omega, by omega, rfl⟩⟩
  · exact ⟨rfl, rfl, rfl, rfl, rfl, rfl, rfl, rfl, .inr ⟨by omega, rfl⟩⟩

/-- What a sends, by the ways: a new one; one again; the first one again; none. -/
theorem LS.sent_ways {k : Nat} {s : LS} (h : s.Fine true k) :
    (s.snt true = { s with S := s.S + 1 } ∧ s.out true = some s.S ∧ s.S < s.P ∧ s.S < s.f + 8 ∧ s.fo = false) ∨
    (s.snt true = { s with r := s.r + 1, fo := s.fo || s.mu } ∧ s.out true = some s.r ∧ s.r < s.S ∧ (s.fo = true ∨ s.mu = true ∨ s.S = s.P)) ∨
    (s.snt true = { s with r := s.f + 1, fo := s.mu } ∧ s.out true = some s.f ∧ s.r = s.S ∧ s.f < s.S ∧ (s.fo = true ∨ s.mu = true ∨ s.S = s.P)) ∨
    (s.snt true = { s with r := s.f, fo := s.mu } ∧ s.out true = none ∧ s.r = s.S ∧ s.f = s.S ∧ (s.fo = true ∨ s.mu = true ∨ s.S = s.P)) := by
  obtain ⟨h1, h2, h3, h4, h5, h6, h7, h8, -, h10⟩ := h
  have h10 := h10 rfl
  have key : (s.ag = { s with r := s.r + 1, fo := s.fo || s.mu } ∧ s.oa = some s.r ∧ s.r < s.S) ∨ (s.ag = { s with r := s.f + 1, fo := s.mu } ∧ s.oa = some s.f ∧ s.r = s.S ∧ s.f < s.S) ∨ (s.ag = { s with r := s.f, fo := s.mu } ∧ s.oa = none ∧ s.r = s.S ∧ s.f = s.S) := by
    unfold LS.ag LS.oa
    by_cases hp : s.r < s.S
    · rw [if_pos hp, if_pos hp]
      exact .inl ⟨rfl, rfl, hp⟩
    · rw [if_neg hp, if_neg hp]
      by_cases hf : s.f < s.S
      · rw [if_pos hf, if_pos hf]
        exact .inr (.inl ⟨rfl, rfl, by omega, hf⟩)
      · rw [if_neg hf, if_neg hf]
        exact .inr (.inr ⟨rfl, rfl, by omega, by omega⟩)
  unfold LS.snt LS.out
  rw [if_pos rfl, if_pos rfl]
  by_cases hc : (s.fo || s.mu) = true
  · rw [if_pos hc, if_pos hc]
    have hw : s.fo = true ∨ s.mu = true ∨ s.S = s.P := by
      have hc2 : s.fo = true ∨ s.mu = true := by simpa using hc
      rcases hc2 with e | e
      · exact .inl e
      · exact .inr (.inl e)
    rcases key with ⟨a, b, d⟩ | ⟨a, b, d, e⟩ | ⟨a, b, d, e⟩
    · exact .inr (.inl ⟨a, b, d, hw⟩)
    · exact .inr (.inr (.inl ⟨a, b, d, e, hw⟩))
    · exact .inr (.inr (.inr ⟨a, b, d, e, hw⟩))
  · rw [if_neg hc, if_neg hc]
    by_cases hk : s.S < s.P
    · rw [if_pos hk, if_pos hk]
      have hc' : s.fo = false ∧ s.mu = false := by simpa using hc
      have : ¬ (s.S < s.P ∧ s.f + 8 ≤ s.S) := fun e => by
        have := LS.mu_iff.2 e
        rw [hc'.2] at this
        exact absurd this (by decide)
      exact .inl ⟨rfl, rfl, hk, by omega, hc'.1⟩
    · rw [if_neg hk, if_neg hk]
      have hw : s.fo = true ∨ s.mu = true ∨ s.S = s.P := .inr (.inr (by omega))
      rcases key with ⟨a, b, d⟩ | ⟨a, b, d, e⟩ | ⟨a, b, d, e⟩
      · exact .inr (.inl ⟨a, b, d, hw⟩)
      · exact .inr (.inr (.inl ⟨a, b, d, e, hw⟩))
      · exact .inr (.inr (.inr ⟨a, b, d, e, hw⟩))

/-- The cyclic method's round. -/
theorem LS.rnd_cyc {k : Nat} {s : LS} (h : s.Fine true k) (rb ra : Bool) : (s.rnd true k rb ra).Fine true k := by
  have hp := LS.put_fine h
  unfold LS.rnd
  simp only
  generalize s.put k = s1 at hp
  have hw := LS.sent_ways hp
  obtain ⟨h1, h2, h3, h4, h5, h6, h7, h8, -, h10⟩ := hp
  have h10 := h10 rfl
  obtain ⟨f, S, r, g, P, A, B, ask, fo⟩ := s1
  rcases hw with ⟨w1, w2, w3, w4, w5⟩ | ⟨w1, w2, w3, w4⟩ | ⟨w1, w2, w3, w4, w5⟩ | ⟨w1, w2, w3, w4, w5⟩
  all_goals
    rw [w1, w2]
    clear w1 w2
    simp only at *
    cases rb <;> cases ra
    all_goals
      simp only [Bool.false_eq_true, if_false, if_true, LS.tkn, LS.ans, Option.some.injEq, reduceCtorEq]
      repeat' split
      all_goals
        refine ⟨?_, ?_, ?_, ?_, ?_, ?_, ?_, ?_, fun e => Bool.noConfusion e, fun _ => ?_⟩
        all_goals (try dsimp only at *)
        all_goals omega

/-- How far off a is from what b waits for. -/
def LS.dist (s : LS) : Nat := if s.g < s.r then s.S - s.r + 1 else s.g - s.r
/-- What the cyclic method has still to do. -/
def LS.ndC (k : Nat) (s : LS) : Nat := (4 * k - (2 * s.S + 2 * s.g)) + s.dist + (if s.fo = true ∧ s.g = s.S then 1 else 0)

theorem LS.ndC_le {k : Nat} {s : LS} (h : s.Fine true k) : s.ndC k ≤ 4 * k + 10 := by
  obtain ⟨h1, h2, h3, h4, h5, h6, h7, h8, -, h10⟩ := h
  have h10 := h10 rfl
  unfold LS.ndC LS.dist
  split <;> split <;> omega

/-- A round in which nothing is lost. -/
theorem LS.rnd_cycN {k : Nat} {s : LS} (h : s.Fine true k) : (s.rnd true k true true).g ≤ (s.rnd true k true true).f + 1 ∧ (s.g ≤ s.f + 1 → (s.rnd true k true true).ndC k ≤ s.ndC k - 1) := by
  have hp := LS.put_fine h
  obtain ⟨q1, q2, q3, q4, q5, q6, q7, q8, -, -⟩ := h
  obtain ⟨p1, p2, p3, p4, -, -, -, p5, p8⟩ := LS.put_parts k s
  unfold LS.rnd
  simp only
  generalize s.put k = s1 at *
  have hw := LS.sent_ways hp
  have hmu : s1.mu = true ↔ s1.S < s1.P ∧ s1.f + 8 ≤ s1.S := LS.mu_iff
  obtain ⟨h1, h2, h3, h4, h5, h6, h7, h8, -, h10⟩ := hp
  have h10 := h10 rfl
  generalize s1.mu = mu at *
  obtain ⟨f, S, r, g, P, A, B, ask, fo⟩ := s1
  obtain ⟨f0, S0, r0, g0, P0, A0, B0, ask0, fo0⟩ := s
  rcases hw with ⟨w1, w2, w3, w4, w5⟩ | ⟨w1, w2, w3, w4⟩ | ⟨w1, w2, w3, w4, w5⟩ | ⟨w1, w2, w3, w4, w5⟩
  all_goals
    rw [w1, w2]
    clear w1 w2
    simp only at *
    subst p1 p2 p3 p4 p5
    simp only [if_false, if_true, LS.tkn, LS.ans, Option.some.injEq, reduceCtorEq]
    refine ⟨?_, fun hgf => ?_⟩
    · first
      | omega
      | (split <;> (dsimp only; omega))
    · simp only [LS.ndC, LS.dist]
      cases fo <;> cases mu
      all_goals
        simp only [Bool.or_true, Bool.or_false, Bool.false_eq_true, false_and, true_and, if_false, false_iff, true_iff, reduceCtorEq, false_or, true_or, or_true, or_self] at *
        repeat' split
        all_goals (try dsimp only at *)
        all_goals first
          | omega
          | (exfalso; simp_all; done)
          | (trace_state; fail)
end Go.Proofs.Ytmjogdhfndnbaaa.Tape
