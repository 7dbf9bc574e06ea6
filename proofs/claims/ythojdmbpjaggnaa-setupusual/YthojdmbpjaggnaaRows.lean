/-
  No cell of these rows narrows 'for every input' (looked for: loops, veiled, ifaces, maps, wideKeys, modest, calm, conditions, laid).
  DERIVED. THE GIVEN ROWS OF THIS SEAT. 3 by the template 'for every input the law returns true; each argument reads behind the call as it read before'; 0 by the template 'total and deterministic' (their statements: YthojdmbpjaggnaaTotals.lean).
  GIVEN WITH THE SEED: the statements are not yours to turn. If you find one false, say at which input.
  Laid BY PROGRAM, IN A SANDBOX (cutbox-rows.mjs): the forced cells as the released guide's own fill.sh prints them over the translation 909ddbaea36053e3… (all of the seat's roots in one cut). By AI agents, Wed Nov 11 2026. No macro, syntax, notation, axiom, sorry.
-/
import Derived.Test.YthojdmbpjaggnaaChecked
import GoSem.Claim
import GoSem.ClaimJoined
import GoSem.ClaimMapViews
import Derived.JoinedTies
import Derived.KernelRfl
namespace Go.Proofs.Ythojdmbpjaggnaa
/- THE CELL 'sum', in the pinned program and in every row, IS THE sha256 OF THE DUMP (.gsa) THAT YthojdmbpjaggnaaProg.lean LOADS. Nothing in Lean hashes anything: it is a label: what it is worth is what the hold of that sum in a sandbox is worth. -/
noncomputable def Try.pinned : Pinned := { name := "ythojdmbpjaggnaa", sum := "909ddbaea36053e3f1d5fe60822096ea287d1a4319dda691d713065a962ba3be", checked := Try.checked }
namespace Rows
def none {H : Type} : Left H := { results := [], args := [] }

/-- 'signalmanlaw09.SetupChecks': WHATEVER THE INPUT: true; the input reads as it did. -/
def setupChecksSpec : ChangeSpec := { name := "setupChecks", fn := fun _ => fun
  | [d1, d2, d3, d4] => { results := [.lit (.bool true)], args := [d1, d2, d3, d4] }
  | _ => none }
def setupChecksRow : OpenClaim := { program := "ythojdmbpjaggnaa", sum := "909ddbaea36053e3f1d5fe60822096ea287d1a4319dda691d713065a962ba3be", func := "signalman/signalmanlaw09.SetupChecks", spec := "setupChecks", apart := false }
def SetupChecksSaid : Prop := setupChecksRow.holds Try.pinned (OpenSpec.ofChange setupChecksSpec)

/-- ITS FALSE NEIGHBOUR: 'it returns false'. Refute it at one input. -/
def setupChecksWrong : ChangeSpec := { name := "setupChecks", fn := fun _ => fun
  | [d1, d2, d3, d4] => { results := [.lit (.bool false)], args := [d1, d2, d3, d4] }
  | _ => none }
def SetupChecksWrongFalsely : Prop := setupChecksRow.holds Try.pinned (OpenSpec.ofChange setupChecksWrong)

/-- 'signalmanlaw09.SetupUsual': WHATEVER THE INPUT: true; the input reads as it did. -/
def setupUsualSpec : ChangeSpec := { name := "setupUsual", fn := fun _ => fun
  | [d] => { results := [.lit (.bool true)], args := [d] }
  | _ => none }
def setupUsualRow : OpenClaim := { program := "ythojdmbpjaggnaa", sum := "909ddbaea36053e3f1d5fe60822096ea287d1a4319dda691d713065a962ba3be", func := "signalman/signalmanlaw09.SetupUsual", spec := "setupUsual", apart := false }
def SetupUsualSaid : Prop := setupUsualRow.holds Try.pinned (OpenSpec.ofChange setupUsualSpec)

/-- ITS FALSE NEIGHBOUR: 'it returns false'. Refute it at one input. -/
def setupUsualWrong : ChangeSpec := { name := "setupUsual", fn := fun _ => fun
  | [d] => { results := [.lit (.bool false)], args := [d] }
  | _ => none }
def SetupUsualWrongFalsely : Prop := setupUsualRow.holds Try.pinned (OpenSpec.ofChange setupUsualWrong)

/-- 'signalmanlaw09.SetupUnits': WHATEVER THE INPUT: true; the input reads as it did. -/
def setupUnitsSpec : ChangeSpec := { name := "setupUnits", fn := fun _ => fun
  | [d1, d2] => { results := [.lit (.bool true)], args := [d1, d2] }
  | _ => none }
def setupUnitsRow : OpenClaim := { program := "ythojdmbpjaggnaa", sum := "909ddbaea36053e3f1d5fe60822096ea287d1a4319dda691d713065a962ba3be", func := "signalman/signalmanlaw09.SetupUnits", spec := "setupUnits", apart := false }
def SetupUnitsSaid : Prop := setupUnitsRow.holds Try.pinned (OpenSpec.ofChange setupUnitsSpec)

/-- ITS FALSE NEIGHBOUR: 'it returns false'. Refute it at one input. -/
def setupUnitsWrong : ChangeSpec := { name := "setupUnits", fn := fun _ => fun
  | [d1, d2] => { results := [.lit (.bool false)], args := [d1, d2] }
  | _ => none }
def SetupUnitsWrongFalsely : Prop := setupUnitsRow.holds Try.pinned (OpenSpec.ofChange setupUnitsWrong)

/- THE SECOND FORM. 'bulk': how many values and letters a reading holds, each counted each time it is reached (what is shared counts as often as it is met; a slice's spare places count too). A statement '..UptoSaid' is the law's where the arguments, and the package variables that the reading takes, are together of bulk at most 1048576: NARROWER than '..Said'. Prove '..Said' where nothing that the law and all that it calls make is longer than what came in: it says more and counts as full. Else prove '..UptoSaid'. A law counts once. -/
mutual
def uptoBulk {H : Type} : DataW H → Nat
  | .lit (.string bytes) => bytes.length + 1
  | .lit _ => 1
  | .nil => 1
  | .ptr d => uptoBulk d + 1
  | .slice elems spare => uptoBulkAll elems + uptoBulkAll spare + 1
  | .agg parts => uptoBulkAll parts + 1
  | .iface _ d => uptoBulk d + 1
  | .map entries => uptoBulkEntries entries + 1
  | .held _ => 1
def uptoBulkAll {H : Type} : List (DataW H) → Nat
  | [] => 0
  | d :: r => uptoBulk d + uptoBulkAll r
def uptoBulkEntries {H : Type} : List (Lit × DataW H) → Nat
  | [] => 0
  | x :: r => uptoBulkEntry x + uptoBulkEntries r
def uptoBulkEntry {H : Type} : Lit × DataW H → Nat
  | (.string bytes, d) => bytes.length + uptoBulk d + 1
  | (_, d) => uptoBulk d + 1
 end
def uptoSmall : (H : Type) → List (DataW H) → Bool := fun _ ds => decide (uptoBulkAll ds ≤ 1048576)
def OpenSpec.upto (s : _root_.Go.ChangeSpec) : _root_.Go.OpenSpec := { _root_.Go.OpenSpec.ofChange s with cond := some uptoSmall }

/-- 'signalmanlaw09.SetupChecks', WHERE WHAT IT READS IS OF BULK AT MOST 1048576: true; the input reads as it did. -/
def setupChecksUptoRow : OpenClaim := { program := "ythojdmbpjaggnaa", sum := "909ddbaea36053e3f1d5fe60822096ea287d1a4319dda691d713065a962ba3be", func := "signalman/signalmanlaw09.SetupChecks", spec := "setupChecks", apart := false, narrowed := true }
def SetupChecksUptoSaid : Prop := setupChecksUptoRow.holds Try.pinned (OpenSpec.upto setupChecksSpec)

/-- 'signalmanlaw09.SetupUsual', WHERE WHAT IT READS IS OF BULK AT MOST 1048576: true; the input reads as it did. -/
def setupUsualUptoRow : OpenClaim := { program := "ythojdmbpjaggnaa", sum := "909ddbaea36053e3f1d5fe60822096ea287d1a4319dda691d713065a962ba3be", func := "signalman/signalmanlaw09.SetupUsual", spec := "setupUsual", apart := false, narrowed := true }
def SetupUsualUptoSaid : Prop := setupUsualUptoRow.holds Try.pinned (OpenSpec.upto setupUsualSpec)

/-- 'signalmanlaw09.SetupUnits', WHERE WHAT IT READS IS OF BULK AT MOST 1048576: true; the input reads as it did. -/
def setupUnitsUptoRow : OpenClaim := { program := "ythojdmbpjaggnaa", sum := "909ddbaea36053e3f1d5fe60822096ea287d1a4319dda691d713065a962ba3be", func := "signalman/signalmanlaw09.SetupUnits", spec := "setupUnits", apart := false, narrowed := true }
def SetupUnitsUptoSaid : Prop := setupUnitsUptoRow.holds Try.pinned (OpenSpec.upto setupUnitsSpec)

end Rows
end Go.Proofs.Ythojdmbpjaggnaa
