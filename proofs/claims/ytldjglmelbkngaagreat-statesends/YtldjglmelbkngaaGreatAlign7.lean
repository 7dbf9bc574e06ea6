/- A clock's Tick beside its Align. -/
import Derived.Test.YtldjglmelbkngaaGreatAlign6
namespace Go.Proofs.YtldjglmelbkngaaGreat.Tape
open Go.ChangeShapes Go.WideShapes Go.ChangeAt Go.RowKit
set_option linter.unusedVariables false

theorem tick_al (b c : Nat) (A : Al) (w : World) (h : AlignAt w b c A) : Calls Tryz.prog 58 #[.pointer (some ⟨c, 0, none⟩)] w fun e w' =>
    ∃ ao cap, e = .returned (.slice ao (outs 0 A.xs).length cap) ∧ Reads w' ao (nums (outs 0 A.xs)) ∧ (∀ x, ao = some x → w.heap.size ≤ x.block ∧ x.block < w'.heap.size) ∧ AlignAt w' b c A.tick ∧ Fr b c w w' := by
  refine (tick_any c A.xs w h.clock).mono ?_
  rintro e w' ⟨v, rfl, hown, hc, hg⟩
  obtain ⟨ao, cap, rfl, -, hr, hf⟩ := owns_form hown
  refine ⟨ao, cap, rfl, hr, fun x hx => ?_, ⟨(hg.block b h.lt.1 (by simp only [ne_eq, Option.some.injEq]; exact h.ne)).trans h.cells, hc, h.ok⟩, Fr.of_gb hg (.inr (.inl rfl))⟩
  subst hx
  rcases hf with ⟨e, -⟩ | ⟨g, e⟩
  · cases e
  · obtain rfl := Option.some.inj e
    exact hown.lt g rfl
end Go.Proofs.YtldjglmelbkngaaGreat.Tape
