/- A way's calls with arguments: the method value is no nil. -/
import Derived.Test.YtldjglmelbkngaaGreatWay2
namespace Go.Proofs.YtldjglmelbkngaaGreat.Tape
open Go.ChangeShapes Go.WideShapes Go.ChangeAt Go.RowKit
set_option linter.unusedVariables false

theorem n_ans (c : Bool) (p : Nat) (W : World) : (nilAhead 267 (wT c) (.pointer (some ⟨p, 0, none⟩)) "Answer").run Tryz.prog W = .ok (some false) W := by
  cases c <;> (show _ = _; kernel_rfl)
theorem n_take (c : Bool) (p : Nat) (W : World) : (nilAhead 267 (wT c) (.pointer (some ⟨p, 0, none⟩)) "Take").run Tryz.prog W = .ok (some false) W := by
  cases c <;> (show _ = _; kernel_rfl)
end Go.Proofs.YtldjglmelbkngaaGreat.Tape
