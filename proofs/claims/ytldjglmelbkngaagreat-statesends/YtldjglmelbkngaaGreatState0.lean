/- An Align and a Jam on one clock: what a call of the one leaves of the other; no walk. -/
import Derived.Test.YtldjglmelbkngaaGreatAlign7
import Derived.Test.YtldjglmelbkngaaGreatJam1
import Derived.Test.YtldjglmelbkngaaGreatOut1
import Derived.Test.YtldjglmelbkngaaGreatWay5
import Derived.Test.YtldjglmelbkngaaGreatSetOpen
import Derived.Test.YtldjglmelbkngaaGreatLeak4
namespace Go.Proofs.YtldjglmelbkngaaGreat.Tape
open Go.ChangeShapes Go.WideShapes Go.ChangeAt Go.RowKit
set_option linter.unusedVariables false

/-- A call of an object a with the clock c: a Jam j on it stays as it was, but for what is left of the clock's timers. -/
theorem JamAt.beside {w w' : World} {a c j : Nat} {J : Ja} {ys : List Int} (h : JamAt w j c J) (hf : Fr a c w w') (hc : ClockAt w' c ys) (hj : j ≠ a) : JamAt w' j c { J with xs := ys } :=
  ⟨(hf.block j h.lt.1 hj h.ne).trans h.cells, hc, h.ok⟩
theorem AlignAt.beside {w w' : World} {a c j : Nat} {A : Al} {ys : List Int} (h : AlignAt w a c A) (hf : Fr j c w w') (hc : ClockAt w' c ys) (hj : a ≠ j) : AlignAt w' a c { A with xs := ys } :=
  ⟨(hf.block a h.lt.1 hj h.ne).trans h.cells, hc, h.ok⟩
end Go.Proofs.YtldjglmelbkngaaGreat.Tape
