/-
  No cell of these rows narrows 'for every input' (looked for: loops, veiled, ifaces, maps, wideKeys, modest, calm, conditions, laid).
  DERIVED. THE GIVEN ROWS OF THIS SEAT. 3 by the template 'for every input the law returns true; each argument reads behind the call as it read before'; 0 by the template 'total and deterministic' (their statements: YtmnhciildlmjcaaTotals.lean).
  GIVEN WITH THE SEED: the statements are not yours to turn. If you find one false, say at which input.
  Laid BY PROGRAM, IN A SANDBOX (cutbox-rows.mjs): the forced cells as the released guide's own fill.sh prints them over the translation a11a2f86fdae0695… (all of the seat's roots in one cut). By AI agents, Wed Nov 11 2026. No macro, syntax, notation, axiom, sorry.
-/
import Derived.Test.YtmnhciildlmjcaaChecked
import GoSem.Claim
import GoSem.ClaimJoined
import GoSem.ClaimMapViews
import Derived.JoinedTies
import Derived.KernelRfl
namespace Go.Proofs.Ytmnhciildlmjcaa
/- THE CELL 'sum', in the pinned program and in every row, IS THE sha256 OF THE DUMP (.gsa) THAT YtmnhciildlmjcaaProg.lean LOADS. Nothing in Lean hashes anything: it is a label: what it is worth is what the hold of that sum in a sandbox is worth. -/
noncomputable def Try.pinned : Pinned := { name := "ytmnhciildlmjcaa", sum := "a11a2f86fdae069589509f362670132778f9a9621756ee423abaf5d31e72bee7", checked := Try.checked }
namespace Rows
def none {H : Type} : Left H := { results := [], args := [] }

/-- 'signalmanlaw12.CyclicPlays': WHATEVER THE INPUT: true; the input reads as it did. -/
def cyclicPlaysSpec : ChangeSpec := { name := "cyclicPlays", fn := fun _ => fun
  | [d1, d2, d3, d4] => { results := [.lit (.bool true)], args := [d1, d2, d3, d4] }
  | _ => none }
def cyclicPlaysRow : OpenClaim := { program := "ytmnhciildlmjcaa", sum := "a11a2f86fdae069589509f362670132778f9a9621756ee423abaf5d31e72bee7", func := "signalman/signalmanlaw12.CyclicPlays", spec := "cyclicPlays", apart := false }
def CyclicPlaysSaid : Prop := cyclicPlaysRow.holds Try.pinned (OpenSpec.ofChange cyclicPlaysSpec)

/-- ITS FALSE NEIGHBOUR: 'it returns false'. Refute it at one input. -/
def cyclicPlaysWrong : ChangeSpec := { name := "cyclicPlays", fn := fun _ => fun
  | [d1, d2, d3, d4] => { results := [.lit (.bool false)], args := [d1, d2, d3, d4] }
  | _ => none }
def CyclicPlaysWrongFalsely : Prop := cyclicPlaysRow.holds Try.pinned (OpenSpec.ofChange cyclicPlaysWrong)

/-- 'signalmanlaw12.CyclicLoses': WHATEVER THE INPUT: true; the input reads as it did. -/
def cyclicLosesSpec : ChangeSpec := { name := "cyclicLoses", fn := fun _ => fun
  | [d1, d2, d3, d4, d5] => { results := [.lit (.bool true)], args := [d1, d2, d3, d4, d5] }
  | _ => none }
def cyclicLosesRow : OpenClaim := { program := "ytmnhciildlmjcaa", sum := "a11a2f86fdae069589509f362670132778f9a9621756ee423abaf5d31e72bee7", func := "signalman/signalmanlaw12.CyclicLoses", spec := "cyclicLoses", apart := false }
def CyclicLosesSaid : Prop := cyclicLosesRow.holds Try.pinned (OpenSpec.ofChange cyclicLosesSpec)

/-- ITS FALSE NEIGHBOUR: 'it returns false'. Refute it at one input. -/
def cyclicLosesWrong : ChangeSpec := { name := "cyclicLoses", fn := fun _ => fun
  | [d1, d2, d3, d4, d5] => { results := [.lit (.bool false)], args := [d1, d2, d3, d4, d5] }
  | _ => none }
def CyclicLosesWrongFalsely : Prop := cyclicLosesRow.holds Try.pinned (OpenSpec.ofChange cyclicLosesWrong)

/-- 'signalmanlaw12.CyclicForced': WHATEVER THE INPUT: true; the input reads as it did. -/
def cyclicForcedSpec : ChangeSpec := { name := "cyclicForced", fn := fun _ => fun
  | [d1, d2] => { results := [.lit (.bool true)], args := [d1, d2] }
  | _ => none }
def cyclicForcedRow : OpenClaim := { program := "ytmnhciildlmjcaa", sum := "a11a2f86fdae069589509f362670132778f9a9621756ee423abaf5d31e72bee7", func := "signalman/signalmanlaw12.CyclicForced", spec := "cyclicForced", apart := false }
def CyclicForcedSaid : Prop := cyclicForcedRow.holds Try.pinned (OpenSpec.ofChange cyclicForcedSpec)

/-- ITS FALSE NEIGHBOUR: 'it returns false'. Refute it at one input. -/
def cyclicForcedWrong : ChangeSpec := { name := "cyclicForced", fn := fun _ => fun
  | [d1, d2] => { results := [.lit (.bool false)], args := [d1, d2] }
  | _ => none }
def CyclicForcedWrongFalsely : Prop := cyclicForcedRow.holds Try.pinned (OpenSpec.ofChange cyclicForcedWrong)

/- THE SECOND FORM. 'bulk': how many values and letters a reading holds, each counted each time it is reached (what is shared counts as often as it is met; a slice's spare places count too). A statement '..UptoSaid' is the law's where the arguments, and the package variables that the reading takes, are together of bulk at most 1048576: NARROWER than '..Said'. Prove '..Said' where nothing that the law and all that it calls make is longer than what came in: it says more and counts as full. Else prove '..UptoSaid'. A law counts once. -/
mutual
def uptoBulk {H : Type} : DataW H → Nat
  | .lit (.string bytes) => bytes.length + 1
  | .lit _ => 1
  | .nil => 1
  | .ptr d => uptoBulk d + 1
  | .slice elems spare => uptoBulkAll elems + uptoBulkAll spare + 1
  | .agg parts => uptoBulkAll parts + 1
  | .iface _ d => uptoBulk d + 1
  | .map entries => uptoBulkEntries entries + 1
  | .held _ => 1
def uptoBulkAll {H : Type} : List (DataW H) → Nat
  | [] => 0
  | d :: r => uptoBulk d + uptoBulkAll r
def uptoBulkEntries {H : Type} : List (Lit × DataW H) → Nat
  | [] => 0
  | x :: r => uptoBulkEntry x + uptoBulkEntries r
def uptoBulkEntry {H : Type} : Lit × DataW H → Nat
  | (.string bytes, d) => bytes.length + uptoBulk d + 1
  | (_, d) => uptoBulk d + 1
 end
def uptoSmall : (H : Type) → List (DataW H) → Bool := fun _ ds => decide (uptoBulkAll ds ≤ 1048576)
def OpenSpec.upto (s : _root_.Go.ChangeSpec) : _root_.Go.OpenSpec := { _root_.Go.OpenSpec.ofChange s with cond := some uptoSmall }

/-- 'signalmanlaw12.CyclicPlays', WHERE WHAT IT READS IS OF BULK AT MOST 1048576: true; the input reads as it did. -/
def cyclicPlaysUptoRow : OpenClaim := { program := "ytmnhciildlmjcaa", sum := "a11a2f86fdae069589509f362670132778f9a9621756ee423abaf5d31e72bee7", func := "signalman/signalmanlaw12.CyclicPlays", spec := "cyclicPlays", apart := false, narrowed := true }
def CyclicPlaysUptoSaid : Prop := cyclicPlaysUptoRow.holds Try.pinned (OpenSpec.upto cyclicPlaysSpec)

/-- 'signalmanlaw12.CyclicLoses', WHERE WHAT IT READS IS OF BULK AT MOST 1048576: true; the input reads as it did. -/
def cyclicLosesUptoRow : OpenClaim := { program := "ytmnhciildlmjcaa", sum := "a11a2f86fdae069589509f362670132778f9a9621756ee423abaf5d31e72bee7", func := "signalman/signalmanlaw12.CyclicLoses", spec := "cyclicLoses", apart := false, narrowed := true }
def CyclicLosesUptoSaid : Prop := cyclicLosesUptoRow.holds Try.pinned (OpenSpec.upto cyclicLosesSpec)

/-- 'signalmanlaw12.CyclicForced', WHERE WHAT IT READS IS OF BULK AT MOST 1048576: true; the input reads as it did. -/
def cyclicForcedUptoRow : OpenClaim := { program := "ytmnhciildlmjcaa", sum := "a11a2f86fdae069589509f362670132778f9a9621756ee423abaf5d31e72bee7", func := "signalman/signalmanlaw12.CyclicForced", spec := "cyclicForced", apart := false, narrowed := true }
def CyclicForcedUptoSaid : Prop := cyclicForcedUptoRow.holds Try.pinned (OpenSpec.upto cyclicForcedSpec)

end Rows
end Go.Proofs.Ytmnhciildlmjcaa
