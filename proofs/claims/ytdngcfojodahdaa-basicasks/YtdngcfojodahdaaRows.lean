/-
  No cell of these rows narrows 'for every input' (looked for: loops, veiled, ifaces, maps, wideKeys, modest, calm, conditions, laid).
  DERIVED. THE GIVEN ROWS OF THIS SEAT. 4 by the template 'for every input the law returns true; each argument reads behind the call as it read before'; 0 by the template 'total and deterministic' (their statements: YtdngcfojodahdaaTotals.lean).
  GIVEN WITH THE SEED: the statements are not yours to turn. If you find one false, say at which input.
  Laid BY PROGRAM, IN A SANDBOX (cutbox-rows.mjs): the forced cells as the released guide's own fill.sh prints them over the translation 6e5b9f732193c277… (all of the seat's roots in one cut). By AI agents, Wed Nov 11 2026. No macro, syntax, notation, axiom, sorry.
-/
import Derived.Test.YtdngcfojodahdaaChecked
import GoSem.Claim
import GoSem.ClaimJoined
import GoSem.ClaimMapViews
import Derived.JoinedTies
import Derived.KernelRfl
namespace Go.Proofs.Ytdngcfojodahdaa
/- THE CELL 'sum', in the pinned program and in every row, IS THE sha256 OF THE DUMP (.gsa) THAT YtdngcfojodahdaaProg.lean LOADS. Nothing in Lean hashes anything: it is a label: what it is worth is what the hold of that sum in a sandbox is worth. -/
noncomputable def Try.pinned : Pinned := { name := "ytdngcfojodahdaa", sum := "6e5b9f732193c2778288c481030ad82b08a87199d0b60c85c49c4c6beed5a903", checked := Try.checked }
namespace Rows
def none {H : Type} : Left H := { results := [], args := [] }

/-- 'signalmanlaw11.BasicOdd': WHATEVER THE INPUT: true; the input reads as it did. -/
def basicOddSpec : ChangeSpec := { name := "basicOdd", fn := fun _ => fun
  | [d] => { results := [.lit (.bool true)], args := [d] }
  | _ => none }
def basicOddRow : OpenClaim := { program := "ytdngcfojodahdaa", sum := "6e5b9f732193c2778288c481030ad82b08a87199d0b60c85c49c4c6beed5a903", func := "signalman/signalmanlaw11.BasicOdd", spec := "basicOdd", apart := false }
def BasicOddSaid : Prop := basicOddRow.holds Try.pinned (OpenSpec.ofChange basicOddSpec)

/-- ITS FALSE NEIGHBOUR: 'it returns false'. Refute it at one input. -/
def basicOddWrong : ChangeSpec := { name := "basicOdd", fn := fun _ => fun
  | [d] => { results := [.lit (.bool false)], args := [d] }
  | _ => none }
def BasicOddWrongFalsely : Prop := basicOddRow.holds Try.pinned (OpenSpec.ofChange basicOddWrong)

/-- 'signalmanlaw11.BasicLoses': WHATEVER THE INPUT: true; the input reads as it did. -/
def basicLosesSpec : ChangeSpec := { name := "basicLoses", fn := fun _ => fun
  | [d1, d2, d3] => { results := [.lit (.bool true)], args := [d1, d2, d3] }
  | _ => none }
def basicLosesRow : OpenClaim := { program := "ytdngcfojodahdaa", sum := "6e5b9f732193c2778288c481030ad82b08a87199d0b60c85c49c4c6beed5a903", func := "signalman/signalmanlaw11.BasicLoses", spec := "basicLoses", apart := false }
def BasicLosesSaid : Prop := basicLosesRow.holds Try.pinned (OpenSpec.ofChange basicLosesSpec)

/-- ITS FALSE NEIGHBOUR: 'it returns false'. Refute it at one input. -/
def basicLosesWrong : ChangeSpec := { name := "basicLoses", fn := fun _ => fun
  | [d1, d2, d3] => { results := [.lit (.bool false)], args := [d1, d2, d3] }
  | _ => none }
def BasicLosesWrongFalsely : Prop := basicLosesRow.holds Try.pinned (OpenSpec.ofChange basicLosesWrong)

/-- 'signalmanlaw11.BasicBack': WHATEVER THE INPUT: true; the input reads as it did. -/
def basicBackSpec : ChangeSpec := { name := "basicBack", fn := fun _ => fun
  | [d1, d2] => { results := [.lit (.bool true)], args := [d1, d2] }
  | _ => none }
def basicBackRow : OpenClaim := { program := "ytdngcfojodahdaa", sum := "6e5b9f732193c2778288c481030ad82b08a87199d0b60c85c49c4c6beed5a903", func := "signalman/signalmanlaw11.BasicBack", spec := "basicBack", apart := false }
def BasicBackSaid : Prop := basicBackRow.holds Try.pinned (OpenSpec.ofChange basicBackSpec)

/-- ITS FALSE NEIGHBOUR: 'it returns false'. Refute it at one input. -/
def basicBackWrong : ChangeSpec := { name := "basicBack", fn := fun _ => fun
  | [d1, d2] => { results := [.lit (.bool false)], args := [d1, d2] }
  | _ => none }
def BasicBackWrongFalsely : Prop := basicBackRow.holds Try.pinned (OpenSpec.ofChange basicBackWrong)

/-- 'signalmanlaw11.BasicAsks': WHATEVER THE INPUT: true; the input reads as it did. -/
def basicAsksSpec : ChangeSpec := { name := "basicAsks", fn := fun _ => fun
  | [d1, d2] => { results := [.lit (.bool true)], args := [d1, d2] }
  | _ => none }
def basicAsksRow : OpenClaim := { program := "ytdngcfojodahdaa", sum := "6e5b9f732193c2778288c481030ad82b08a87199d0b60c85c49c4c6beed5a903", func := "signalman/signalmanlaw11.BasicAsks", spec := "basicAsks", apart := false }
def BasicAsksSaid : Prop := basicAsksRow.holds Try.pinned (OpenSpec.ofChange basicAsksSpec)

/-- ITS FALSE NEIGHBOUR: 'it returns false'. Refute it at one input. -/
def basicAsksWrong : ChangeSpec := { name := "basicAsks", fn := fun _ => fun
  | [d1, d2] => { results := [.lit (.bool false)], args := [d1, d2] }
  | _ => none }
def BasicAsksWrongFalsely : Prop := basicAsksRow.holds Try.pinned (OpenSpec.ofChange basicAsksWrong)

/- THE SECOND FORM. 'bulk': how many values and letters a reading holds, each counted each time it is reached (what is shared counts as often as it is met; a slice's spare places count too). A statement '..UptoSaid' is the law's where the arguments, and the package variables that the reading takes, are together of bulk at most 1048576: NARROWER than '..Said'. Prove '..Said' where nothing that the law and all that it calls make is longer than what came in: it says more and counts as full. Else prove '..UptoSaid'. A law counts once. -/
mutual
def uptoBulk {H : Type} : DataW H → Nat
  | .lit (.string bytes) => bytes.length + 1
  | .lit _ => 1
  | .nil => 1
  | .ptr d => uptoBulk d + 1
  | .slice elems spare => uptoBulkAll elems + uptoBulkAll spare + 1
  | .agg parts => uptoBulkAll parts + 1
  | .iface _ d => uptoBulk d + 1
  | .map entries => uptoBulkEntries entries + 1
  | .held _ => 1
def uptoBulkAll {H : Type} : List (DataW H) → Nat
  | [] => 0
  | d :: r => uptoBulk d + uptoBulkAll r
def uptoBulkEntries {H : Type} : List (Lit × DataW H) → Nat
  | [] => 0
  | x :: r => uptoBulkEntry x + uptoBulkEntries r
def uptoBulkEntry {H : Type} : Lit × DataW H → Nat
  | (.string bytes, d) => bytes.length + uptoBulk d + 1
  | (_, d) => uptoBulk d + 1
 end
def uptoSmall : (H : Type) → List (DataW H) → Bool := fun _ ds => decide (uptoBulkAll ds ≤ 1048576)
def OpenSpec.upto (s : _root_.Go.ChangeSpec) : _root_.Go.OpenSpec := { _root_.Go.OpenSpec.ofChange s with cond := some uptoSmall }

/-- 'signalmanlaw11.BasicOdd', WHERE WHAT IT READS IS OF BULK AT MOST 1048576: true; the input reads as it did. -/
def basicOddUptoRow : OpenClaim := { program := "ytdngcfojodahdaa", sum := "6e5b9f732193c2778288c481030ad82b08a87199d0b60c85c49c4c6beed5a903", func := "signalman/signalmanlaw11.BasicOdd", spec := "basicOdd", apart := false, narrowed := true }
def BasicOddUptoSaid : Prop := basicOddUptoRow.holds Try.pinned (OpenSpec.upto basicOddSpec)

/-- 'signalmanlaw11.BasicLoses', WHERE WHAT IT READS IS OF BULK AT MOST 1048576: true; the input reads as it did. -/
def basicLosesUptoRow : OpenClaim := { program := "ytdngcfojodahdaa", sum := "6e5b9f732193c2778288c481030ad82b08a87199d0b60c85c49c4c6beed5a903", func := "signalman/signalmanlaw11.BasicLoses", spec := "basicLoses", apart := false, narrowed := true }
def BasicLosesUptoSaid : Prop := basicLosesUptoRow.holds Try.pinned (OpenSpec.upto basicLosesSpec)

/-- 'signalmanlaw11.BasicBack', WHERE WHAT IT READS IS OF BULK AT MOST 1048576: true; the input reads as it did. -/
def basicBackUptoRow : OpenClaim := { program := "ytdngcfojodahdaa", sum := "6e5b9f732193c2778288c481030ad82b08a87199d0b60c85c49c4c6beed5a903", func := "signalman/signalmanlaw11.BasicBack", spec := "basicBack", apart := false, narrowed := true }
def BasicBackUptoSaid : Prop := basicBackUptoRow.holds Try.pinned (OpenSpec.upto basicBackSpec)

/-- 'signalmanlaw11.BasicAsks', WHERE WHAT IT READS IS OF BULK AT MOST 1048576: true; the input reads as it did. -/
def basicAsksUptoRow : OpenClaim := { program := "ytdngcfojodahdaa", sum := "6e5b9f732193c2778288c481030ad82b08a87199d0b60c85c49c4c6beed5a903", func := "signalman/signalmanlaw11.BasicAsks", spec := "basicAsks", apart := false, narrowed := true }
def BasicAsksUptoSaid : Prop := basicAsksUptoRow.holds Try.pinned (OpenSpec.upto basicAsksSpec)

end Rows
end Go.Proofs.Ytdngcfojodahdaa
