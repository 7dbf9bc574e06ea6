/- What a State that came of a new one sends, and answers; no walk. -/
import Derived.Test.YtldjglmelbkngaaGreatInv2
import Derived.Test.YtldjglmelbkngaaGreatDo17
namespace Go.Proofs.YtldjglmelbkngaaGreat.Tape
open Go.ChangeShapes Go.WideShapes Go.ChangeAt Go.RowKit
set_option linter.unusedVariables false

theorem new_iv (c : Bool) : Iv (stN c 8 300 16 600 qT) := by
  refine ⟨?_, ?_, ⟨?_, ?_, ?_, ?_⟩, ?_, ?_, ?_, ?_, ?_, ?_, ?_⟩
  · show (0 : Int) ≤ 0 ∧ (0 : Int) ≤ 5; decide
  · show 0 ≤ 63 ∧ 0 ≤ 255; decide
  · show (0 : Int) ≤ 0 ∧ (0 : Int) ≤ 3; decide
  · show (0 : Int) ≤ 0 ∧ (0 : Int) ≤ 3; decide
  · show (0 : Int) ≤ 0 ∧ (0 : Int) ≤ 5; decide
  · exact fun e => absurd (show (0 : Int) = 3 from e) (by decide)
  · exact fun _ => rfl
  · exact fun e => absurd (show (0 : Int) = 1 from e) (by decide)
  · exact fun e => absurd (show (0 : Int) = 2 from e) (by decide)
  · exact fun e => absurd (show (0 : Int) = 3 from e) (by decide)
  · exact fun e => absurd (show (0 : Int) = 4 from e) (by decide)
  · exact fun e => absurd (show false = true from e) (by decide)
  · exact ⟨rfl, rfl⟩
theorem new_told (c : Bool) : (stN c 8 300 16 600 qT).told = [] ∧ (stN c 8 300 16 600 qT).fl = 0 ∧ (stN c 8 300 16 600 qT).s = 0 := ⟨rfl, rfl, rfl⟩
theorem kd_two (o : Option (List Int)) : kd o = 0 ∨ kd o = 2 := by cases o <;> simp [kd]
/-- Which units go in which state. -/
theorem sends_ok {x : St} (h : Iv x) :
    (x.s = 0 ∧ x.nk = 1 ∧ x.ns = 3) ∨ (x.s = 1 ∧ x.nk = 1 ∧ x.ns ≤ 2) ∨ (x.s = 2 ∧ x.nk = 0) ∨ (x.s = 3 ∧ x.own = true ∧ x.nk = 1 ∧ x.ns = 4) ∨ (x.s = 5 ∧ x.own = true ∧ x.nk = 1 ∧ x.ns = 4) ∨ (x.s = 5 ∧ x.own = false ∧ x.nk = 0) ∨
      (x.s = 4 ∧ x.own = false ∧ x.nk = 1 ∧ x.ns = 5 ∧ x.J.own = true) ∨ (x.s = 4 ∧ x.own = false ∧ (x.nk = 0 ∨ x.nk = 2)) := by
  have hs := h.s
  have : x.s = 0 ∨ x.s = 1 ∨ x.s = 2 ∨ x.s = 3 ∨ x.s = 4 ∨ x.s = 5 := by omega
  rcases this with e | e | e | e | e | e
  · refine .inl ⟨e, ?_, ?_⟩
    · unfold St.nk; rw [if_pos (.inl e)]
    · unfold St.ns Al.sends; rw [if_pos (.inl e), if_pos (h.s0 e)]
  · refine .inr (.inl ⟨e, ?_, ?_⟩)
    · unfold St.nk; rw [if_pos (.inr e)]
    · unfold St.ns Al.sends; rw [if_pos (.inr e), if_neg (h.s1 e)]; repeat' split
      all_goals omega
  · refine .inr (.inr (.inl ⟨e, ?_⟩))
    unfold St.nk; rw [if_neg (by omega), if_neg (by omega), if_neg (by omega)]
  · have ho := h.s3 e
    refine .inr (.inr (.inr (.inl ⟨e, ho, ?_, ?_⟩)))
    · unfold St.nk; rw [if_neg (by omega), if_neg (by omega), if_pos ⟨by omega, ho⟩]
    · unfold St.ns; rw [if_neg (by omega), if_neg (by omega), if_pos ⟨by omega, ho⟩]
  · have ho := h.s4 e
    cases hd : x.J.due with
    | true =>
      refine .inr (.inr (.inr (.inr (.inr (.inr (.inl ⟨e, ho, ?_, ?_, h.due hd⟩))))))
      · unfold St.nk; rw [if_neg (by omega), if_pos e, if_pos hd]
      · unfold St.ns; rw [if_neg (by omega), if_pos e, if_pos hd]
    | false =>
      refine .inr (.inr (.inr (.inr (.inr (.inr (.inr ⟨e, ho, ?_⟩))))))
      unfold St.nk
      rw [if_neg (by omega), if_pos e, if_neg (by rw [hd]; decide)]
      exact kd_two _
  · cases ho : x.own with
    | true =>
      refine .inr (.inr (.inr (.inr (.inl ⟨e, rfl, ?_, ?_⟩))))
      · unfold St.nk; rw [if_neg (by omega), if_neg (by omega), if_pos ⟨by omega, ho⟩]
      · unfold St.ns; rw [if_neg (by omega), if_neg (by omega), if_pos ⟨by omega, ho⟩]
    | false =>
      refine .inr (.inr (.inr (.inr (.inr (.inl ⟨e, rfl, ?_⟩)))))
      unfold St.nk; rw [if_neg (by omega), if_neg (by omega), if_neg (fun e => by rw [ho] at e; exact absurd e.2 (by decide))]

/-- What the law keeps of its State, act by act. -/
def Keep (w : World) (P : Pl) (j : Nat) (W : World) : Prop := ∃ x, Iv x ∧ x.told.length ≤ 6 * j ∧ (0 ≤ x.fl ∧ x.fl ≤ j) ∧ LA w P 250 x noK W
theorem Keep.do_ {w : World} {P : Pl} {j : Nat} {W : World} {x x' : St} (ht : x.told.length ≤ 6 * j) (hf : 0 ≤ x.fl ∧ x.fl ≤ j) (hd : DoR x x') (hA : LA w P 250 x' noK W) : Keep w P (j + 1) W := by
  have := hd.grow
  exact ⟨x', hd.1, by omega, by omega, hA⟩
end Go.Proofs.YtldjglmelbkngaaGreat.Tape
