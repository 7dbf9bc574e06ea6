/- WayLoses: two ways over a line that loses units, by numbers, for either method; no walk here. -/
import Derived.Test.YtmjogdhfndnbaaaBase
namespace Go.Proofs.Ytmjogdhfndnbaaa.Tape
set_option linter.unusedVariables false

/-- What the two sides have: of a's messages how many were put (P), sent (S), answered (f); which one goes next, or is sent again next (r); how many b took (g). By the basic method: how often a's indicator (A), and b's (B), was turned; whether b has asked for one again. By the cyclic one: whether all must be sent again (fo). -/
structure LS where
  f : Nat
  S : Nat
  r : Nat
  g : Nat
  P : Nat
  A : Nat
  B : Nat
  ask : Bool
  fo : Bool
/-- At first. -/
def ls0 : LS := ⟨0, 0, 0, 0, 0, 0, 0, false, false⟩
/-- A message is put, if there is one, and room. -/
def LS.put (k : Nat) (s : LS) : LS := if s.P < k ∧ s.P < s.f + 16 then { s with P := s.P + 1 } else s
/-- Cyclic: is there a new one that doesn't fit? -/
def LS.mu (s : LS) : Bool := decide (s.S < s.P ∧ s.f + 8 ≤ s.S)
/-- Cyclic: a sends again. -/
def LS.ag (s : LS) : LS := if s.r < s.S then { s with r := s.r + 1, fo := s.fo || s.mu } else { s with r := if s.f < s.S then s.f + 1 else s.f, fo := s.mu }
def LS.oa (s : LS) : Option Nat := if s.r < s.S then some s.r else if s.f < s.S then some s.f else none
/-- a sends. -/
def LS.snt (c : Bool) (s : LS) : LS :=
  if c then (if (s.fo || s.mu) = true then s.ag else if s.S < s.P then { s with S := s.S + 1 } else s.ag)
  else (if s.r < s.P then { s with S := max s.S (s.r + 1), r := s.r + 1 } else s)
/-- .. which message. -/
def LS.out (c : Bool) (s : LS) : Option Nat :=
  if c then (if (s.fo || s.mu) = true then s.oa else if s.S < s.P then some s.S else s.oa)
  else (if s.r < s.P then some s.r else none)
/-- b gets what a sent. -/
def LS.tkn (c : Bool) (s : LS) (o : Option Nat) : LS :=
  if c then (if o = some s.g then { s with g := s.g + 1 } else s)
  else if s.A % 2 = s.B % 2 then
    (if o = some s.g then { s with g := s.g + 1, ask := false } else if o.getD s.S = s.g ∧ o = none then { s with ask := false } else { s with B := s.B + 1, ask := true })
  else s
/-- .. whether it takes a message. -/
def LS.tks (c : Bool) (s : LS) (o : Option Nat) : Bool := if c then decide (o = some s.g) else decide (s.A % 2 = s.B % 2 ∧ o = some s.g)
/-- a gets what b sent when it had taken g0, and turned B0 times. -/
def LS.ans (c : Bool) (s : LS) (g0 B0 : Nat) : LS :=
  if c then { s with f := g0, r := max s.r g0 }
  else if B0 % 2 = s.A % 2 then { s with f := g0, r := max s.r g0 } else { s with f := g0, r := g0, A := s.A + 1 }
/-- A round. -/
def LS.rnd (c : Bool) (k : Nat) (rb ra : Bool) (s : LS) : LS :=
  let s1 := s.put k
  let s2 := s1.snt c
  let s3 := if rb then s2.tkn c (s1.out c) else s2
  if ra then s3.ans c s1.g s1.B else s3

/-- What holds at any time. -/
structure LS.Fine (c : Bool) (k : Nat) (s : LS) : Prop where
  fg : s.f ≤ s.g
  gS : s.g ≤ s.S
  SP : s.S ≤ s.P
  Pk : s.P ≤ k
  k40 : k < 40
  fr : s.f ≤ s.r
  rS : s.r ≤ s.S
  P16 : s.P ≤ s.f + 16
  bas : c = false → s.A ≤ s.B ∧ s.B ≤ s.A + 1 ∧ (s.B = s.A + 1 → s.ask = true) ∧ s.g ≤ s.r
  cyc : c = true → s.S ≤ s.f + 8

theorem LS.put_fine {c : Bool} {k : Nat} {s : LS} (h : s.Fine c k) : (s.put k).Fine c k := by
  unfold LS.put
  split
  · obtain ⟨h1, h2, h3, h4, h5, h6, h7, h8, h9, h10⟩ := h
    exact ⟨h1, h2, by simp only; omega, by simp only; omega, h5, h6, h7, by simp only; omega, h9, h10⟩
  · exact h

/-- The basic method's round. -/
theorem LS.rnd_bas {k : Nat} {s : LS} (h : s.Fine false k) (rb ra : Bool) : (s.rnd false k rb ra).Fine false k := by
  have hp := LS.put_fine h
  unfold LS.rnd
  simp only
  generalize s.put k = s1 at hp
  obtain ⟨h1, h2, h3, h4, h5, h6, h7, h8, h9, -⟩ := hp
  obtain ⟨b1, b2, b3, b4⟩ := h9 rfl
  have hs2 : s1.snt false = (if s1.r < s1.P then { s1 with S := max s1.S (s1.r + 1), r := s1.r + 1 } else s1) := by unfold LS.snt; simp
  have ho : s1.out false = (if s1.r < s1.P then some s1.r else none) := by unfold LS.out; simp
  rw [hs2, ho]
  obtain ⟨f, S, r, g, P, A, B, ask, fo⟩ := s1
  simp only at *
  cases rb <;> cases ra
  all_goals
    simp only [Bool.false_eq_true, if_false, if_true, LS.tkn, LS.ans]
    by_cases hr : r < P
    all_goals
      simp only [hr, if_true, if_false, Option.some.injEq, Option.getD_some, Option.getD_none, reduceCtorEq, and_false, and_true]
      repeat' split
      all_goals
        refine ⟨?_, ?_, ?_, ?_, ?_, ?_, ?_, ?_, fun _ => ⟨?_, ?_, ?_, ?_⟩, fun e => Bool.noConfusion e⟩
        all_goals (try dsimp only at *)
        all_goals first
          | omega
          | (intro hh; first | rfl | trivial | (exact b3 (by omega)) | (exfalso; omega))
          | (trace_state; fail)
/-- What the basic method has still to do. -/
def LS.ndB (k : Nat) (s : LS) : Nat := (if s.A = s.B then (if s.r = s.g then 0 else 2) else 1) + (3 * k - (s.g + s.f + s.P))

/-- A round in which nothing is lost. -/
theorem LS.rnd_basN {k : Nat} {s : LS} (h : s.Fine false k) : (s.rnd false k true true).ndB k ≤ s.ndB k - 1 := by
  have hp := LS.put_fine h
  obtain ⟨q1, q2, q3, q4, q5, q6, q7, q8, q9, -⟩ := h
  have hput : (s.put k).f = s.f ∧ (s.put k).S = s.S ∧ (s.put k).r = s.r ∧ (s.put k).g = s.g ∧ (s.put k).A = s.A ∧ (s.put k).B = s.B ∧ (s.put k).ask = s.ask ∧ (s.P < k ∧ s.P < s.f + 16 ∧ (s.put k).P = s.P + 1 ∨ (k ≤ s.P ∨ s.f + 16 ≤ s.P) ∧ (s.put k).P = s.P) := by
    unfold LS.put
    split
    · exact ⟨rfl, rfl, rfl, rfl, rfl, rfl, rfl, .inl ⟨by omega, by omega, rfl⟩⟩
    · exact ⟨rfl, rfl, rfl, rfl, rfl, rfl, rfl, .inr ⟨by omega, rfl⟩⟩
  obtain ⟨p1, p2, p3, p4, p5, p6, p7, p8⟩ := hput
  unfold LS.rnd
  simp only
  generalize s.put k = s1 at *
  obtain ⟨h1, h2, h3, h4, h5, h6, h7, h8, h9, -⟩ := hp
  obtain ⟨b1, b2, b3, b4⟩ := h9 rfl
  have hs2 : s1.snt false = (if s1.r < s1.P then { s1 with S := max s1.S (s1.r + 1), r := s1.r + 1 } else s1) := by unfold LS.snt; simp
  have ho : s1.out false = (if s1.r < s1.P then some s1.r else none) := by unfold LS.out; simp
  rw [hs2, ho]
  clear hs2 ho
  obtain ⟨f, S, r, g, P, A, B, ask, fo⟩ := s1
  obtain ⟨f0, S0, r0, g0, P0, A0, B0, ask0, fo0⟩ := s
  simp only at *
  subst p1 p2 p3 p4 p5 p6
  simp only [Bool.false_eq_true, if_false, if_true, LS.tkn, LS.ans, LS.ndB]
  by_cases hr : r < P
  all_goals
    simp only [hr, if_true, if_false, Option.some.injEq, Option.getD_some, Option.getD_none, reduceCtorEq, and_false, and_true]
    repeat' split
    all_goals (try dsimp only at *)
    all_goals first
      | omega
      | (trace_state; fail)
end Go.Proofs.Ytmjogdhfndnbaaa.Tape
