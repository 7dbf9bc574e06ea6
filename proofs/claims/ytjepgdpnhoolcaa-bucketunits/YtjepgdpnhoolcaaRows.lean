/-
  No cell of these rows narrows 'for every input' (looked for: loops, veiled, ifaces, maps, wideKeys, modest, calm, conditions, laid).
  DERIVED. THE GIVEN ROWS OF THIS SEAT. 8 by the template 'for every input the law returns true; each argument reads behind the call as it read before'; 0 by the template 'total and deterministic' (their statements: YtjepgdpnhoolcaaTotals.lean).
  GIVEN WITH THE SEED: the statements are not yours to turn. If you find one false, say at which input.
  Laid BY PROGRAM, IN A SANDBOX (cutbox-rows.mjs): the forced cells as the released guide's own fill.sh prints them over the translation 4b0358fceddc6381… (all of the seat's roots in one cut). By AI agents, Wed Nov 11 2026. No macro, syntax, notation, axiom, sorry.
-/
import Derived.Test.YtjepgdpnhoolcaaChecked
import GoSem.Claim
import GoSem.ClaimJoined
import GoSem.ClaimMapViews
import Derived.JoinedTies
import Derived.KernelRfl
namespace Go.Proofs.Ytjepgdpnhoolcaa
/- THE CELL 'sum', in the pinned program and in every row, IS THE sha256 OF THE DUMP (.gsa) THAT YtjepgdpnhoolcaaProg.lean LOADS. Nothing in Lean hashes anything: it is a label: what it is worth is what the hold of that sum in a sandbox is worth. -/
noncomputable def Try.pinned : Pinned := { name := "ytjepgdpnhoolcaa", sum := "4b0358fceddc63816c9da6712768d2dbb79ac17d4d4b641abb673d687c7cfeac", checked := Try.checked }
namespace Rows
def none {H : Type} : Left H := { results := [], args := [] }

/-- 'signalmanlaw07.ClockPlays': WHATEVER THE INPUT: true; the input reads as it did. -/
def clockPlaysSpec : ChangeSpec := { name := "clockPlays", fn := fun _ => fun
  | [d] => { results := [.lit (.bool true)], args := [d] }
  | _ => none }
def clockPlaysRow : OpenClaim := { program := "ytjepgdpnhoolcaa", sum := "4b0358fceddc63816c9da6712768d2dbb79ac17d4d4b641abb673d687c7cfeac", func := "signalman/signalmanlaw07.ClockPlays", spec := "clockPlays", apart := false }
def ClockPlaysSaid : Prop := clockPlaysRow.holds Try.pinned (OpenSpec.ofChange clockPlaysSpec)

/-- ITS FALSE NEIGHBOUR: 'it returns false'. Refute it at one input. -/
def clockPlaysWrong : ChangeSpec := { name := "clockPlays", fn := fun _ => fun
  | [d] => { results := [.lit (.bool false)], args := [d] }
  | _ => none }
def ClockPlaysWrongFalsely : Prop := clockPlaysRow.holds Try.pinned (OpenSpec.ofChange clockPlaysWrong)

/-- 'signalmanlaw07.ClockBounds': WHATEVER THE INPUT: true; the input reads as it did. -/
def clockBoundsSpec : ChangeSpec := { name := "clockBounds", fn := fun _ => fun
  | [d1, d2] => { results := [.lit (.bool true)], args := [d1, d2] }
  | _ => none }
def clockBoundsRow : OpenClaim := { program := "ytjepgdpnhoolcaa", sum := "4b0358fceddc63816c9da6712768d2dbb79ac17d4d4b641abb673d687c7cfeac", func := "signalman/signalmanlaw07.ClockBounds", spec := "clockBounds", apart := false }
def ClockBoundsSaid : Prop := clockBoundsRow.holds Try.pinned (OpenSpec.ofChange clockBoundsSpec)

/-- ITS FALSE NEIGHBOUR: 'it returns false'. Refute it at one input. -/
def clockBoundsWrong : ChangeSpec := { name := "clockBounds", fn := fun _ => fun
  | [d1, d2] => { results := [.lit (.bool false)], args := [d1, d2] }
  | _ => none }
def ClockBoundsWrongFalsely : Prop := clockBoundsRow.holds Try.pinned (OpenSpec.ofChange clockBoundsWrong)

/-- 'signalmanlaw07.ClockNil': WHATEVER THE INPUT: true; the input reads as it did. -/
def clockNilSpec : ChangeSpec := { name := "clockNil", fn := fun _ => fun
  | [d1, d2] => { results := [.lit (.bool true)], args := [d1, d2] }
  | _ => none }
def clockNilRow : OpenClaim := { program := "ytjepgdpnhoolcaa", sum := "4b0358fceddc63816c9da6712768d2dbb79ac17d4d4b641abb673d687c7cfeac", func := "signalman/signalmanlaw07.ClockNil", spec := "clockNil", apart := false }
def ClockNilSaid : Prop := clockNilRow.holds Try.pinned (OpenSpec.ofChange clockNilSpec)

/-- ITS FALSE NEIGHBOUR: 'it returns false'. Refute it at one input. -/
def clockNilWrong : ChangeSpec := { name := "clockNil", fn := fun _ => fun
  | [d1, d2] => { results := [.lit (.bool false)], args := [d1, d2] }
  | _ => none }
def ClockNilWrongFalsely : Prop := clockNilRow.holds Try.pinned (OpenSpec.ofChange clockNilWrong)

/-- 'signalmanlaw08.BucketUnits': WHATEVER THE INPUT: true; the input reads as it did. -/
def bucketUnitsSpec : ChangeSpec := { name := "bucketUnits", fn := fun _ => fun
  | [d] => { results := [.lit (.bool true)], args := [d] }
  | _ => none }
def bucketUnitsRow : OpenClaim := { program := "ytjepgdpnhoolcaa", sum := "4b0358fceddc63816c9da6712768d2dbb79ac17d4d4b641abb673d687c7cfeac", func := "signalman/signalmanlaw08.BucketUnits", spec := "bucketUnits", apart := false }
def BucketUnitsSaid : Prop := bucketUnitsRow.holds Try.pinned (OpenSpec.ofChange bucketUnitsSpec)

/-- ITS FALSE NEIGHBOUR: 'it returns false'. Refute it at one input. -/
def bucketUnitsWrong : ChangeSpec := { name := "bucketUnits", fn := fun _ => fun
  | [d] => { results := [.lit (.bool false)], args := [d] }
  | _ => none }
def BucketUnitsWrongFalsely : Prop := bucketUnitsRow.holds Try.pinned (OpenSpec.ofChange bucketUnitsWrong)

/-- 'signalmanlaw08.BucketRuns': WHATEVER THE INPUT: true; the input reads as it did. -/
def bucketRunsSpec : ChangeSpec := { name := "bucketRuns", fn := fun _ => fun
  | [d] => { results := [.lit (.bool true)], args := [d] }
  | _ => none }
def bucketRunsRow : OpenClaim := { program := "ytjepgdpnhoolcaa", sum := "4b0358fceddc63816c9da6712768d2dbb79ac17d4d4b641abb673d687c7cfeac", func := "signalman/signalmanlaw08.BucketRuns", spec := "bucketRuns", apart := false }
def BucketRunsSaid : Prop := bucketRunsRow.holds Try.pinned (OpenSpec.ofChange bucketRunsSpec)

/-- ITS FALSE NEIGHBOUR: 'it returns false'. Refute it at one input. -/
def bucketRunsWrong : ChangeSpec := { name := "bucketRuns", fn := fun _ => fun
  | [d] => { results := [.lit (.bool false)], args := [d] }
  | _ => none }
def BucketRunsWrongFalsely : Prop := bucketRunsRow.holds Try.pinned (OpenSpec.ofChange bucketRunsWrong)

/-- 'signalmanlaw08.BucketRare': WHATEVER THE INPUT: true; the input reads as it did. -/
def bucketRareSpec : ChangeSpec := { name := "bucketRare", fn := fun _ => fun
  | [d] => { results := [.lit (.bool true)], args := [d] }
  | _ => none }
def bucketRareRow : OpenClaim := { program := "ytjepgdpnhoolcaa", sum := "4b0358fceddc63816c9da6712768d2dbb79ac17d4d4b641abb673d687c7cfeac", func := "signalman/signalmanlaw08.BucketRare", spec := "bucketRare", apart := false }
def BucketRareSaid : Prop := bucketRareRow.holds Try.pinned (OpenSpec.ofChange bucketRareSpec)

/-- ITS FALSE NEIGHBOUR: 'it returns false'. Refute it at one input. -/
def bucketRareWrong : ChangeSpec := { name := "bucketRare", fn := fun _ => fun
  | [d] => { results := [.lit (.bool false)], args := [d] }
  | _ => none }
def BucketRareWrongFalsely : Prop := bucketRareRow.holds Try.pinned (OpenSpec.ofChange bucketRareWrong)

/-- 'signalmanlaw08.BucketForgets': WHATEVER THE INPUT: true; the input reads as it did. -/
def bucketForgetsSpec : ChangeSpec := { name := "bucketForgets", fn := fun _ => fun
  | [d1, d2] => { results := [.lit (.bool true)], args := [d1, d2] }
  | _ => none }
def bucketForgetsRow : OpenClaim := { program := "ytjepgdpnhoolcaa", sum := "4b0358fceddc63816c9da6712768d2dbb79ac17d4d4b641abb673d687c7cfeac", func := "signalman/signalmanlaw08.BucketForgets", spec := "bucketForgets", apart := false }
def BucketForgetsSaid : Prop := bucketForgetsRow.holds Try.pinned (OpenSpec.ofChange bucketForgetsSpec)

/-- ITS FALSE NEIGHBOUR: 'it returns false'. Refute it at one input. -/
def bucketForgetsWrong : ChangeSpec := { name := "bucketForgets", fn := fun _ => fun
  | [d1, d2] => { results := [.lit (.bool false)], args := [d1, d2] }
  | _ => none }
def BucketForgetsWrongFalsely : Prop := bucketForgetsRow.holds Try.pinned (OpenSpec.ofChange bucketForgetsWrong)

/-- 'signalmanlaw08.BucketRight': WHATEVER THE INPUT: true; the input reads as it did. -/
def bucketRightSpec : ChangeSpec := { name := "bucketRight", fn := fun _ => fun
  | [d] => { results := [.lit (.bool true)], args := [d] }
  | _ => none }
def bucketRightRow : OpenClaim := { program := "ytjepgdpnhoolcaa", sum := "4b0358fceddc63816c9da6712768d2dbb79ac17d4d4b641abb673d687c7cfeac", func := "signalman/signalmanlaw08.BucketRight", spec := "bucketRight", apart := false }
def BucketRightSaid : Prop := bucketRightRow.holds Try.pinned (OpenSpec.ofChange bucketRightSpec)

/-- ITS FALSE NEIGHBOUR: 'it returns false'. Refute it at one input. -/
def bucketRightWrong : ChangeSpec := { name := "bucketRight", fn := fun _ => fun
  | [d] => { results := [.lit (.bool false)], args := [d] }
  | _ => none }
def BucketRightWrongFalsely : Prop := bucketRightRow.holds Try.pinned (OpenSpec.ofChange bucketRightWrong)

/- THE SECOND FORM. 'bulk': how many values and letters a reading holds, each counted each time it is reached (what is shared counts as often as it is met; a slice's spare places count too). A statement '..UptoSaid' is the law's where the arguments, and the package variables that the reading takes, are together of bulk at most 1048576: NARROWER than '..Said'. Prove '..Said' where nothing that the law and all that it calls make is longer than what came in: it says more and counts as full. Else prove '..UptoSaid'. A law counts once. -/
mutual
def uptoBulk {H : Type} : DataW H → Nat
  | .lit (.string bytes) => bytes.length + 1
  | .lit _ => 1
  | .nil => 1
  | .ptr d => uptoBulk d + 1
  | .slice elems spare => uptoBulkAll elems + uptoBulkAll spare + 1
  | .agg parts => uptoBulkAll parts + 1
  | .iface _ d => uptoBulk d + 1
  | .map entries => uptoBulkEntries entries + 1
  | .held _ => 1
def uptoBulkAll {H : Type} : List (DataW H) → Nat
  | [] => 0
  | d :: r => uptoBulk d + uptoBulkAll r
def uptoBulkEntries {H : Type} : List (Lit × DataW H) → Nat
  | [] => 0
  | x :: r => uptoBulkEntry x + uptoBulkEntries r
def uptoBulkEntry {H : Type} : Lit × DataW H → Nat
  | (.string bytes, d) => bytes.length + uptoBulk d + 1
  | (_, d) => uptoBulk d + 1
 end
def uptoSmall : (H : Type) → List (DataW H) → Bool := fun _ ds => decide (uptoBulkAll ds ≤ 1048576)
def OpenSpec.upto (s : _root_.Go.ChangeSpec) : _root_.Go.OpenSpec := { _root_.Go.OpenSpec.ofChange s with cond := some uptoSmall }

/-- 'signalmanlaw07.ClockPlays', WHERE WHAT IT READS IS OF BULK AT MOST 1048576: true; the input reads as it did. -/
def clockPlaysUptoRow : OpenClaim := { program := "ytjepgdpnhoolcaa", sum := "4b0358fceddc63816c9da6712768d2dbb79ac17d4d4b641abb673d687c7cfeac", func := "signalman/signalmanlaw07.ClockPlays", spec := "clockPlays", apart := false, narrowed := true }
def ClockPlaysUptoSaid : Prop := clockPlaysUptoRow.holds Try.pinned (OpenSpec.upto clockPlaysSpec)

/-- 'signalmanlaw07.ClockBounds', WHERE WHAT IT READS IS OF BULK AT MOST 1048576: true; the input reads as it did. -/
def clockBoundsUptoRow : OpenClaim := { program := "ytjepgdpnhoolcaa", sum := "4b0358fceddc63816c9da6712768d2dbb79ac17d4d4b641abb673d687c7cfeac", func := "signalman/signalmanlaw07.ClockBounds", spec := "clockBounds", apart := false, narrowed := true }
def ClockBoundsUptoSaid : Prop := clockBoundsUptoRow.holds Try.pinned (OpenSpec.upto clockBoundsSpec)

/-- 'signalmanlaw07.ClockNil', WHERE WHAT IT READS IS OF BULK AT MOST 1048576: true; the input reads as it did. -/
def clockNilUptoRow : OpenClaim := { program := "ytjepgdpnhoolcaa", sum := "4b0358fceddc63816c9da6712768d2dbb79ac17d4d4b641abb673d687c7cfeac", func := "signalman/signalmanlaw07.ClockNil", spec := "clockNil", apart := false, narrowed := true }
def ClockNilUptoSaid : Prop := clockNilUptoRow.holds Try.pinned (OpenSpec.upto clockNilSpec)

/-- 'signalmanlaw08.BucketUnits', WHERE WHAT IT READS IS OF BULK AT MOST 1048576: true; the input reads as it did. -/
def bucketUnitsUptoRow : OpenClaim := { program := "ytjepgdpnhoolcaa", sum := "4b0358fceddc63816c9da6712768d2dbb79ac17d4d4b641abb673d687c7cfeac", func := "signalman/signalmanlaw08.BucketUnits", spec := "bucketUnits", apart := false, narrowed := true }
def BucketUnitsUptoSaid : Prop := bucketUnitsUptoRow.holds Try.pinned (OpenSpec.upto bucketUnitsSpec)

/-- 'signalmanlaw08.BucketRuns', WHERE WHAT IT READS IS OF BULK AT MOST 1048576: true; the input reads as it did. -/
def bucketRunsUptoRow : OpenClaim := { program := "ytjepgdpnhoolcaa", sum := "4b0358fceddc63816c9da6712768d2dbb79ac17d4d4b641abb673d687c7cfeac", func := "signalman/signalmanlaw08.BucketRuns", spec := "bucketRuns", apart := false, narrowed := true }
def BucketRunsUptoSaid : Prop := bucketRunsUptoRow.holds Try.pinned (OpenSpec.upto bucketRunsSpec)

/-- 'signalmanlaw08.BucketRare', WHERE WHAT IT READS IS OF BULK AT MOST 1048576: true; the input reads as it did. -/
def bucketRareUptoRow : OpenClaim := { program := "ytjepgdpnhoolcaa", sum := "4b0358fceddc63816c9da6712768d2dbb79ac17d4d4b641abb673d687c7cfeac", func := "signalman/signalmanlaw08.BucketRare", spec := "bucketRare", apart := false, narrowed := true }
def BucketRareUptoSaid : Prop := bucketRareUptoRow.holds Try.pinned (OpenSpec.upto bucketRareSpec)

/-- 'signalmanlaw08.BucketForgets', WHERE WHAT IT READS IS OF BULK AT MOST 1048576: true; the input reads as it did. -/
def bucketForgetsUptoRow : OpenClaim := { program := "ytjepgdpnhoolcaa", sum := "4b0358fceddc63816c9da6712768d2dbb79ac17d4d4b641abb673d687c7cfeac", func := "signalman/signalmanlaw08.BucketForgets", spec := "bucketForgets", apart := false, narrowed := true }
def BucketForgetsUptoSaid : Prop := bucketForgetsUptoRow.holds Try.pinned (OpenSpec.upto bucketForgetsSpec)

/-- 'signalmanlaw08.BucketRight', WHERE WHAT IT READS IS OF BULK AT MOST 1048576: true; the input reads as it did. -/
def bucketRightUptoRow : OpenClaim := { program := "ytjepgdpnhoolcaa", sum := "4b0358fceddc63816c9da6712768d2dbb79ac17d4d4b641abb673d687c7cfeac", func := "signalman/signalmanlaw08.BucketRight", spec := "bucketRight", apart := false, narrowed := true }
def BucketRightUptoSaid : Prop := bucketRightUptoRow.holds Try.pinned (OpenSpec.upto bucketRightSpec)

end Rows
end Go.Proofs.Ytjepgdpnhoolcaa
