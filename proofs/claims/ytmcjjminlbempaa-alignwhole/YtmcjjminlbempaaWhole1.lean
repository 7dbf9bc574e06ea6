/- AlignWhole's invariant, step by step; no walk. -/
import Derived.Test.YtmcjjminlbempaaAlign6
namespace Go.Proofs.Ytmcjjminlbempaa.Tape
open Go.ChangeShapes Go.WideShapes Go.ChangeAt Go.RowKit
set_option linter.unusedVariables false

/-- The law's timers. -/
def wT (k : Nat) : Int := [6, 99, 99, 99, 20, 5, 9, 9].getD k 1
theorem wT_ok (k : Nat) : 1 ≤ wT k ∧ wT k ≤ 4294967296 := by
  have : k = 0 ∨ k = 1 ∨ k = 2 ∨ k = 3 ∨ k = 4 ∨ k = 5 ∨ k = 6 ∨ k = 7 ∨ 8 ≤ k := by omega
  rcases this with rfl | rfl | rfl | rfl | rfl | rfl | rfl | rfl | h
  · decide
  · decide
  · decide
  · decide
  · decide
  · decide
  · decide
  · decide
  · have : wT k = 1 := by unfold wT; rw [List.getD_eq_getElem?_getD, List.getElem?_eq_none (by simpa using h)]; rfl
    rw [this]; decide

/-- What the law knows of an Align that has been Tried for so many ticks at least (-1: it isn't Tried). -/
structure WH (A : Al) (s : Int) : Prop where
  t : A.t = wT
  n : 0 ≤ A.n ∧ A.n < A.most
  tr : 0 ≤ A.tries ∧ A.tries ≤ 4
  st : (A.st = 1 ∧ s = -1 ∧ ∃ x, 1 ≤ x ∧ A.xs = [0, 0, x, 0, 0, 0, 0, 0]) ∨ (A.st = 2 ∧ s = -1 ∧ ∃ x, 1 ≤ x ∧ A.xs = [0, 0, 0, x, 0, 0, 0, 0]) ∨
    (A.st = 3 ∧ 0 ≤ s ∧ ((∃ x, 1 ≤ x ∧ 6 ≤ x + s ∧ A.xs = [x, 0, 0, 0, 0, 0, 0, 0]) ∨ ∃ x, 1 ≤ x ∧ 20 ≤ x + s ∧ A.xs = [0, 0, 0, 0, x, 0, 0, 0]))

theorem wh_near {A : Al} {a b c d : Int} (ht : A.t = wT) (hn : 0 ≤ A.n ∧ A.n < A.most) (hr : 0 ≤ A.tries ∧ A.tries ≤ 4) (hx : A.xs = [a, 0, b, c, d, 0, 0, 0]) : WH A.near (-1) := by
  refine ⟨ht, hn, hr, .inr (.inl ⟨rfl, rfl, 99, by decide, ?_⟩)⟩
  show ([0, 2, 4].foldl stp A.xs).set 3 (A.t 3) = _
  rw [hx, ht]
  rfl

theorem wh_prove {A : Al} {a b c d : Int} (s : Int) (hs : 0 ≤ s) (ht : A.t = wT) (hr : 0 ≤ A.tries ∧ A.tries ≤ 4) (hx : A.xs = [a, 0, b, c, d, 0, 0, 0]) : WH A.prove s := by
  rcases hh : A.hurries with _ | _
  · refine ⟨ht, ⟨Int.le_refl 0, ?_⟩, hr, .inr (.inr ⟨rfl, hs, .inr ⟨20, by decide, by omega, ?_⟩⟩)⟩
    · show (0 : Int) < if A.hurries = true then 1 else 4
      rw [hh]; decide
    · show ([0, 2, 3, 4].foldl stp A.xs).set (if A.hurries = true then 0 else 4) (A.t (if A.hurries = true then 0 else 4)) = _
      rw [hx, ht, hh]
      rfl
  · refine ⟨ht, ⟨Int.le_refl 0, ?_⟩, hr, .inr (.inr ⟨rfl, hs, .inl ⟨6, by decide, by omega, ?_⟩⟩)⟩
    · show (0 : Int) < if A.hurries = true then 1 else 4
      rw [hh]; decide
    · show ([0, 2, 3, 4].foldl stp A.xs).set (if A.hurries = true then 0 else 4) (A.t (if A.hurries = true then 0 else 4)) = _
      rw [hx, ht, hh]
      rfl

theorem wh_xs {A : Al} {s : Int} (h : WH A s) : ∃ a b c d, A.xs = [a, 0, b, c, d, 0, 0, 0] := by
  rcases h.st with ⟨-, -, x, -, e⟩ | ⟨-, -, x, -, e⟩ | ⟨-, -, ⟨x, -, -, e⟩ | ⟨x, -, -, e⟩⟩
  · exact ⟨0, x, 0, 0, e⟩
  · exact ⟨0, 0, x, 0, e⟩
  · exact ⟨x, 0, 0, 0, e⟩
  · exact ⟨0, 0, 0, x, e⟩

theorem wh_quick {A : Al} {s : Int} (h : WH A s) (h3 : A.st = 3) (q : Int) (was : Bool) : WH ((A.hears q).quicken was) s ∧ ((A.hears q).quicken was).st = 3 := by
  obtain ⟨a, b, c, d, hx⟩ := wh_xs h
  have hs : 0 ≤ s := by rcases h.st with ⟨e, -⟩ | ⟨e, -⟩ | ⟨-, e, -⟩ <;> omega
  unfold Al.quicken
  split
  · exact ⟨wh_prove s hs h.t h.tr hx, rfl⟩
  · exact ⟨⟨h.t, h.n, h.tr, h.st⟩, h3⟩

theorem wh_heard {A : Al} {s : Int} (h : WH A s) (q : Int) (hq : q = 0 ∨ q = 1 ∨ q = 2) :
    ((A.heard q).st ≠ 3 → WH (A.heard q) (-1)) ∧ ((A.heard q).st = 3 → A.st ≠ 3 → WH (A.heard q) 0) ∧ ((A.heard q).st = 3 → A.st = 3 → WH (A.heard q) s) := by
  obtain ⟨a, b, c, d, hx⟩ := wh_xs h
  have h0 : ¬ (A.st = 0 ∨ q = 3) := by rcases h.st with ⟨e, -⟩ | ⟨e, -⟩ | ⟨e, -⟩ <;> omega
  have hn : WH (A.hears q).near (-1) := wh_near h.t h.n h.tr hx
  have hn2 : (A.hears q).near.st = 2 := rfl
  unfold Al.heard
  rw [if_neg h0]
  rcases h.st with ⟨e, es, x, e1, ex⟩ | ⟨e, es, x, e1, ex⟩ | ⟨e, -⟩
  · rw [if_pos e, if_pos hq]
    exact ⟨fun _ => hn, fun k => absurd k (by rw [hn2]; decide), fun k => absurd k (by rw [hn2]; decide)⟩
  · rw [if_neg (by omega), if_pos e]
    split
    · exact ⟨fun k => absurd rfl k, fun _ _ => wh_prove 0 (by omega) h.t ⟨Int.le_refl 0, by show (0 : Int) ≤ 4; decide⟩ hx, fun _ k => absurd k (by omega)⟩
    · exact ⟨fun _ => ⟨h.t, h.n, h.tr, .inr (.inl ⟨e, rfl, x, e1, ex⟩)⟩, fun k => absurd (show A.st = 3 from k) (by omega), fun _ k => absurd k (by omega)⟩
  · rw [if_neg (by omega), if_neg (by omega)]
    split
    · exact ⟨fun _ => hn, fun k => absurd k (by rw [hn2]; decide), fun k => absurd k (by rw [hn2]; decide)⟩
    · obtain ⟨k1, k2⟩ := wh_quick h e q A.hurries
      exact ⟨fun k => absurd k2 k, fun _ k => absurd e k, fun _ _ => k1⟩

theorem wh_unit {A : Al} {s : Int} (h : WH A s) (hw : A.unitWhy true = 0) : ((A.unit true).tries ≠ A.tries → WH (A.unit true) 0) ∧ ((A.unit true).tries = A.tries → WH (A.unit true) s) := by
  obtain ⟨a, b, c, d, hx⟩ := wh_xs h
  by_cases h3 : A.st = 3
  · have hU : A.unit true = if A.n + 1 ≠ A.most then { A with n := A.n + 1 } else if A.tries + 1 ≥ 5 then { A with n := 0, tries := A.tries + 1 } else Al.prove { A with n := 0, tries := A.tries + 1 } := by
      show (if A.st ≠ 3 then A else if A.n + 1 ≠ A.most then { A with n := A.n + 1 } else if A.tries + 1 ≥ 5 then { A with n := 0, tries := A.tries + 1 } else Al.prove { A with n := 0, tries := A.tries + 1 }) = _
      rw [if_neg (by simp [h3])]
    have hW : A.unitWhy true = if A.n + 1 = A.most ∧ A.tries + 1 ≥ 5 then 5 else 0 := by
      show (if A.st = 3 ∧ A.n + 1 = A.most ∧ A.tries + 1 ≥ 5 then (5 : Int) else 0) = _
      simp [h3]
    have hn := h.n
    have ht := h.tr
    by_cases hN : A.n + 1 = A.most
    · have hT : ¬ A.tries + 1 ≥ 5 := fun e => by rw [hW, if_pos ⟨hN, e⟩] at hw; exact absurd hw (by decide)
      rw [hU, if_neg (by simp [hN]), if_neg hT]
      refine ⟨fun _ => wh_prove 0 (by omega) h.t ⟨?_, ?_⟩ hx, fun k => ?_⟩
      · show 0 ≤ A.tries + 1; omega
      · show A.tries + 1 ≤ 4; omega
      · have k' : A.tries + 1 = A.tries := k
        omega
    · rw [hU, if_pos hN]
      refine ⟨fun k => absurd rfl k, fun _ => ⟨h.t, ⟨?_, ?_⟩, h.tr, h.st⟩⟩
      · show 0 ≤ A.n + 1; omega
      · show A.n + 1 < A.most; omega
  · have hU : A.unit true = A := if_pos h3
    rw [hU]
    exact ⟨fun k => absurd rfl k, fun _ => h⟩

/-- What a tick brings: nothing runs out; or one timer does, and it is too early, or it is proved. -/
theorem wh_tick {A : Al} {s : Int} (h : WH A s) :
    (outs 0 A.xs = [] ∧ WH A.tick (if s ≥ 0 then s + 1 else s)) ∨
    (∃ k : Nat, outs 0 A.xs = [k] ∧ A.tick.proved k = false ∧ A.tick.outWhy k = 7) ∨
    ∃ k : Nat, outs 0 A.xs = [k] ∧ A.tick.proved k = true ∧ A.tick.outWhy k = 0 ∧ 0 ≤ s ∧ (k = 0 ∧ 6 ≤ s + 1 ∨ k = 4 ∧ 20 ≤ s + 1) := by
  rcases h.st with ⟨e, es, x, e1, ex⟩ | ⟨e, es, x, e1, ex⟩ | ⟨e, es, ⟨x, e1, e2, ex⟩ | ⟨x, e1, e2, ex⟩⟩
  · by_cases hx : x = 1
    · subst hx
      refine .inr (.inl ⟨2, by rw [ex]; rfl, ?_, ?_⟩)
      · have e' : A.tick.st = _ := e
        unfold Al.proved
        rw [decide_eq_false_iff_not, e']; omega
      · have e' : A.tick.st = _ := e
        unfold Al.outWhy
        rw [if_pos (.inl ⟨e', rfl⟩)]
    · refine .inl ⟨by rw [ex]; simp [outs, hx], h.t, h.n, h.tr, .inl ⟨e, by rw [if_neg (by omega)]; exact es, x - 1, by omega, ?_⟩⟩
      show A.xs.map tk = _
      rw [ex]
      simp [tk, show ¬ x = 0 by omega]
  · by_cases hx : x = 1
    · subst hx
      refine .inr (.inl ⟨3, by rw [ex]; rfl, ?_, ?_⟩)
      · have e' : A.tick.st = _ := e
        unfold Al.proved
        rw [decide_eq_false_iff_not, e']; omega
      · have e' : A.tick.st = _ := e
        unfold Al.outWhy
        rw [if_pos (.inr ⟨e', rfl⟩)]
    · refine .inl ⟨by rw [ex]; simp [outs, hx], h.t, h.n, h.tr, .inr (.inl ⟨e, by rw [if_neg (by omega)]; exact es, x - 1, by omega, ?_⟩)⟩
      show A.xs.map tk = _
      rw [ex]
      simp [tk, show ¬ x = 0 by omega]
  · by_cases hx : x = 1
    · subst hx
      refine .inr (.inr ⟨0, by rw [ex]; rfl, ?_, ?_, es, .inl ⟨rfl, by omega⟩⟩)
      · have e' : A.tick.st = _ := e
        unfold Al.proved
        rw [decide_eq_true_iff]; exact ⟨e', .inl rfl⟩
      · have e' : A.tick.st = 3 := e
        unfold Al.outWhy
        rw [if_neg (by omega)]
    · refine .inl ⟨by rw [ex]; simp [outs, hx], h.t, h.n, h.tr, .inr (.inr ⟨e, by rw [if_pos es]; omega, .inl ⟨x - 1, by omega, by rw [if_pos es]; omega, ?_⟩⟩)⟩
      show A.xs.map tk = _
      rw [ex]
      simp [tk, show ¬ x = 0 by omega]
  · by_cases hx : x = 1
    · subst hx
      refine .inr (.inr ⟨4, by rw [ex]; rfl, ?_, ?_, es, .inr ⟨rfl, by omega⟩⟩)
      · have e' : A.tick.st = _ := e
        unfold Al.proved
        rw [decide_eq_true_iff]; exact ⟨e', .inr rfl⟩
      · have e' : A.tick.st = 3 := e
        unfold Al.outWhy
        rw [if_neg (by omega)]
    · refine .inl ⟨by rw [ex]; simp [outs, hx], h.t, h.n, h.tr, .inr (.inr ⟨e, by rw [if_pos es]; omega, .inr ⟨x - 1, by omega, by rw [if_pos es]; omega, ?_⟩⟩)⟩
      show A.xs.map tk = _
      rw [ex]
      simp [tk, show ¬ x = 0 by omega]

theorem wh_new (h : Bool) : WH (((al0 wT (List.replicate 8 0)).hurry h).begin_) (-1) := by
  cases h <;> exact ⟨rfl, by decide, by decide, .inl ⟨rfl, rfl, 99, by decide, by decide⟩⟩
end Go.Proofs.Ytmcjjminlbempaa.Tape
