/- The hold laws' own awake; HoldWindow's walk. -/
import Derived.Test.YtldjglmelbkngaaGreatHold7
import Derived.Lib.SlBytesConst
namespace Go.Proofs.YtldjglmelbkngaaGreat.Tape
open Go.ChangeShapes Go.WideShapes Go.ChangeAt Go.RowKit
set_option linter.unusedVariables false

theorem HoldAt.base {w : World} {b B : Nat} {T : Nat → Prop} {s : Hs} (h : HoldAt w b B T s) {C : Nat} (hb : C ≤ b) (hB : C ≤ B) : ∀ g, T g → C ≤ g := fun g hg => by
  rcases (h.mine g hg).1 with e | e <;> omega

/-- A step of a Hold of the call's own changes nothing that was there. -/
theorem Foot.low {T T' : Nat → Prop} {w0 w w' : World} {b B C : Nat} {s : Hs} (hf : Foot T T' w w') (h : HoldAt w b B T s) (hb : C ≤ b) (hB : C ≤ B) (k : Below C w0 w) (hC : C ≤ w.heap.size) : Below C w0 w' := k.trans (hf.below (h.base hb hB) hC)

end Go.Proofs.YtldjglmelbkngaaGreat.Tape
