/- The laws' own awake; the contracts of way's Most and Status. -/
import Derived.Test.YtldjglmelbkngaaGreatWay2
import Derived.Test.YtldjglmelbkngaaGreatSetOpen
import Derived.Deep.Cut
import Derived.Deep.RegionHeld
namespace Go.Proofs.YtldjglmelbkngaaGreat.Tape
open Go.ChangeShapes Go.WideShapes Go.ChangeAt Go.RowKit
set_option linter.unusedVariables false

theorem ret_ints {k : IntKind} {a b c d : Int} (h1 : a = b) (h2 : c = d) : Ending.returned (.tuple #[.int k a, .int k c]) = .returned (.tuple #[.int k b, .int k d]) := by rw [h1, h2]

/-- How many messages wait at most; how many octets of more than one. -/
def mstN (c : Bool) (n1 m : Int) : Int := if c then (if m < n1 then m else n1) else (if m < 127 then m else 127)
def mstO (c : Bool) (n2 o : Int) : Int := if c then (if o < n2 then o else n2) else o

end Go.Proofs.YtldjglmelbkngaaGreat.Tape
