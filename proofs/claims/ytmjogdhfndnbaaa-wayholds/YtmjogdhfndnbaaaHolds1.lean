/- What holds of a way whatever is put, sent, answered: no more waits than may; no walk here. -/
import Derived.Test.YtmjogdhfndnbaaaWay2
namespace Go.Proofs.Ytmjogdhfndnbaaa.Tape
open Go.ChangeShapes Go.WideShapes Go.ChangeAt Go.RowKit
set_option linter.unusedVariables false

/-- No more waits than may. -/
structure Holds (c : Bool) (x : Wt) (s : Hs) : Prop where
  cyc : x.cyclic = c
  most : s.most = 16
  oct : s.oct = 600
  cap : match x with
    | .inl _ => True
    | .inr t => t.n1 = 3 ∧ t.n2 = 40 ∧ s.sent.length ≤ 3 ∧ (1 < s.sent.length → sz s.sent ≤ 40)

theorem Holds.put {c : Bool} {x : Wt} {s : Hs} (h : Holds c x s) (xs : List Int) : Holds c x (s.put xs) := by
  have e : (s.put xs).most = s.most ∧ (s.put xs).oct = s.oct ∧ (s.put xs).sent = s.sent := by
    unfold Hs.put
    split <;> exact ⟨rfl, rfl, rfl⟩
  obtain ⟨e1, e2, e3⟩ := e
  obtain ⟨h1, h2, h3, h4⟩ := h
  refine ⟨h1, e1.trans h2, e2.trans h3, ?_⟩
  rw [e3]
  exact h4

theorem again_n (t : Cs) (s : Hs) : (t.again s).1.n1 = t.n1 ∧ (t.again s).1.n2 = t.n2 := by
  unfold Cs.again
  repeat' split
  all_goals exact ⟨rfl, rfl⟩

theorem Holds.nx {c : Bool} {x : Wt} {s : Hs} (h : Holds c x s) : Holds c (x.nx s).1.1 (x.nx s).1.2 := by
  obtain ⟨h1, h2, h3, h4⟩ := h
  cases x with
  | inl t =>
    refine ⟨h1, ?_, ?_, trivial⟩
    · show (t.nx s).1.2.most = 16
      unfold Bs.nx
      repeat' split
      all_goals exact h2
    · show (t.nx s).1.2.oct = 600
      unfold Bs.nx
      repeat' split
      all_goals exact h3
  | inr t =>
    have h4 : t.n1 = 3 ∧ t.n2 = 40 ∧ s.sent.length ≤ 3 ∧ (1 < s.sent.length → sz s.sent ≤ 40) := h4
    obtain ⟨k1, k2, k3, k4⟩ := h4
    have key : (t.nx s).1.2.most = 16 ∧ (t.nx s).1.2.oct = 600 ∧ ((t.nx s).1.1.n1 = 3 ∧ (t.nx s).1.1.n2 = 40 ∧ (t.nx s).1.2.sent.length ≤ 3 ∧ (1 < (t.nx s).1.2.sent.length → sz (t.nx s).1.2.sent ≤ 40)) := by
      have a1 := again_n t s
      have a2 := again_n { t with force := true } s
      unfold Cs.nx
      split
      · exact ⟨h2, h3, a2.1.trans k1, a2.2.trans k2, k3, k4⟩
      · rename_i hf
        split
        · exact ⟨h2, h3, a1.1.trans k1, a1.2.trans k2, k3, k4⟩
        · cases hs : s.next with
          | nil => exact ⟨h2, h3, a1.1.trans k1, a1.2.trans k2, k3, k4⟩
          | cons y ys =>
            have hm : t.much s = false := by
              cases hm : t.much s with
              | true => exact absurd (.inr hm) hf
              | false => rfl
            unfold Cs.much Cs.fits at hm
            have hsz : s.size = y.length := by unfold Hs.size; rw [hs]
            rw [hs, hsz, k1, k2] at hm
            simp only [List.length_cons, Bool.and_eq_false_iff, decide_eq_false_iff_not, Bool.not_eq_false', Bool.or_eq_true, decide_eq_true_iff, Bool.and_eq_true] at hm
            refine ⟨h2, h3, k1, k2, ?_, ?_⟩
            · simp only [List.length_append, List.length_cons, List.length_nil]
              omega
            · simp only [List.length_append, List.length_cons, List.length_nil, sz_append, sz]
              omega
    exact ⟨h1, key.1, key.2.1, key.2.2⟩

theorem Holds.an {c : Bool} {x : Wt} {s : Hs} (h : Holds c x s) (b : Int) (ub : Bool) : Holds c (x.an s b ub).1.1 (x.an s b ub).1.2 := by
  obtain ⟨h1, h2, h3, h4⟩ := h
  cases x with
  | inl t =>
    unfold Wt.an
    simp only
    split
    · exact ⟨h1, h2, h3, trivial⟩
    · exact ⟨h1, h2, h3, trivial⟩
  | inr t =>
    have h4 : t.n1 = 3 ∧ t.n2 = 40 ∧ s.sent.length ≤ 3 ∧ (1 < s.sent.length → sz s.sent ≤ 40) := h4
    obtain ⟨k1, k2, k3, k4⟩ := h4
    unfold Wt.an
    simp only
    split
    · have e1 : (s.free b).sent = s.sent.drop (s.upTo b) := rfl
      have e2 := sz_take_drop (s.upTo b) s.sent
      refine ⟨h1, h2, h3, k1, k2, ?_, ?_⟩
      · rw [e1, List.length_drop]; omega
      · rw [e1, List.length_drop]
        intro hh
        have := k4 (by omega)
        omega
    · exact ⟨h1, h2, h3, k1, k2, k3, k4⟩

/-- Of which kinds a way's blocks are. -/
theorem WayIn.kind {w : World} {p hb B : Nat} {T0 : Nat → Prop} {x : Wt} {s : Hs} (h : WayIn w p hb B T0 x s) : ∀ g, (g = p ∨ T0 g) → ∃ cur t, w.heap[g]? = some (.cells cur t (0, 0)) ∧ (t = 69 ∨ t = 72 ∨ t = 63 ∨ t = 34) := by
  cases x with
  | inl t =>
    intro g hg
    obtain ⟨cur, t, h1, h2⟩ := (BasIn.at_ h).kind g hg
    refine ⟨cur, t, h1, ?_⟩
    rcases h2 with e | e | e <;> simp [e]
  | inr t =>
    intro g hg
    obtain ⟨cur, t, h1, h2⟩ := (CycIn.at_ h).kind g hg
    refine ⟨cur, t, h1, ?_⟩
    rcases h2 with e | e | e <;> simp [e]
/-- A block of another kind is none of them. -/
theorem WayIn.notT {w : World} {p hb B : Nat} {T0 : Nat → Prop} {x : Wt} {s : Hs} (h : WayIn w p hb B T0 x s) {g ty : Nat} {cur : Array Value} (hg : w.heap[g]? = some (.cells cur ty (0, 0))) (h1 : ty ≠ 69) (h2 : ty ≠ 72) (h3 : ty ≠ 63) (h4 : ty ≠ 34) : ¬ (g = p ∨ T0 g) := fun e => by
  obtain ⟨cur', t, hh, ht⟩ := h.kind g e
  rw [hg] at hh
  simp only [Option.some.injEq, Obj.cells.injEq] at hh
  obtain ⟨-, rfl, -⟩ := hh
  rcases ht with e | e | e | e
  · exact h1 e
  · exact h2 e
  · exact h3 e
  · exact h4 e
end Go.Proofs.Ytmjogdhfndnbaaa.Tape
