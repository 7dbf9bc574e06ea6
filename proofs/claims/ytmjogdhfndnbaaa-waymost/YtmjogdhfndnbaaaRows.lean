/-
  No cell of these rows narrows 'for every input' (looked for: loops, veiled, ifaces, maps, wideKeys, modest, calm, conditions, laid).
  DERIVED. THE GIVEN ROWS OF THIS SEAT. 4 by the template 'for every input the law returns true; each argument reads behind the call as it read before'; 0 by the template 'total and deterministic' (their statements: YtmjogdhfndnbaaaTotals.lean).
  GIVEN WITH THE SEED: the statements are not yours to turn. If you find one false, say at which input.
  Laid BY PROGRAM, IN A SANDBOX (cutbox-rows.mjs): the forced cells as the released guide's own fill.sh prints them over the translation 793c6525a8852800… (all of the seat's roots in one cut). By AI agents, Wed Nov 11 2026. No macro, syntax, notation, axiom, sorry.
-/
import Derived.Test.YtmjogdhfndnbaaaChecked
import GoSem.Claim
import GoSem.ClaimJoined
import GoSem.ClaimMapViews
import Derived.JoinedTies
import Derived.KernelRfl
namespace Go.Proofs.Ytmjogdhfndnbaaa
/- THE CELL 'sum', in the pinned program and in every row, IS THE sha256 OF THE DUMP (.gsa) THAT YtmjogdhfndnbaaaProg.lean LOADS. Nothing in Lean hashes anything: it is a label: what it is worth is what the hold of that sum in a sandbox is worth. -/
noncomputable def Try.pinned : Pinned := { name := "ytmjogdhfndnbaaa", sum := "793c6525a88528000ce69f3a586cc6ce17e3611efbcb847ef7a45df4bf68be0b", checked := Try.checked }
namespace Rows
def none {H : Type} : Left H := { results := [], args := [] }

/-- 'signalmanlaw13.WayKinds': WHATEVER THE INPUT: true; the input reads as it did. -/
def wayKindsSpec : ChangeSpec := { name := "wayKinds", fn := fun _ => fun
  | [d1, d2, d3] => { results := [.lit (.bool true)], args := [d1, d2, d3] }
  | _ => none }
def wayKindsRow : OpenClaim := { program := "ytmjogdhfndnbaaa", sum := "793c6525a88528000ce69f3a586cc6ce17e3611efbcb847ef7a45df4bf68be0b", func := "signalman/signalmanlaw13.WayKinds", spec := "wayKinds", unfollowed := true, recurses := true, apart := false }
def WayKindsSaid : Prop := wayKindsRow.holds Try.pinned (OpenSpec.ofChange wayKindsSpec)

/-- ITS FALSE NEIGHBOUR: 'it returns false'. Refute it at one input. -/
def wayKindsWrong : ChangeSpec := { name := "wayKinds", fn := fun _ => fun
  | [d1, d2, d3] => { results := [.lit (.bool false)], args := [d1, d2, d3] }
  | _ => none }
def WayKindsWrongFalsely : Prop := wayKindsRow.holds Try.pinned (OpenSpec.ofChange wayKindsWrong)

/-- 'signalmanlaw13.WayMost': WHATEVER THE INPUT: true; the input reads as it did. -/
def wayMostSpec : ChangeSpec := { name := "wayMost", fn := fun _ => fun
  | [d] => { results := [.lit (.bool true)], args := [d] }
  | _ => none }
def wayMostRow : OpenClaim := { program := "ytmjogdhfndnbaaa", sum := "793c6525a88528000ce69f3a586cc6ce17e3611efbcb847ef7a45df4bf68be0b", func := "signalman/signalmanlaw13.WayMost", spec := "wayMost", apart := false }
def WayMostSaid : Prop := wayMostRow.holds Try.pinned (OpenSpec.ofChange wayMostSpec)

/-- ITS FALSE NEIGHBOUR: 'it returns false'. Refute it at one input. -/
def wayMostWrong : ChangeSpec := { name := "wayMost", fn := fun _ => fun
  | [d] => { results := [.lit (.bool false)], args := [d] }
  | _ => none }
def WayMostWrongFalsely : Prop := wayMostRow.holds Try.pinned (OpenSpec.ofChange wayMostWrong)

/-- 'signalmanlaw13.WayHolds': WHATEVER THE INPUT: true; the input reads as it did. -/
def wayHoldsSpec : ChangeSpec := { name := "wayHolds", fn := fun _ => fun
  | [d1, d2] => { results := [.lit (.bool true)], args := [d1, d2] }
  | _ => none }
def wayHoldsRow : OpenClaim := { program := "ytmjogdhfndnbaaa", sum := "793c6525a88528000ce69f3a586cc6ce17e3611efbcb847ef7a45df4bf68be0b", func := "signalman/signalmanlaw13.WayHolds", spec := "wayHolds", unfollowed := true, recurses := true, apart := false }
def WayHoldsSaid : Prop := wayHoldsRow.holds Try.pinned (OpenSpec.ofChange wayHoldsSpec)

/-- ITS FALSE NEIGHBOUR: 'it returns false'. Refute it at one input. -/
def wayHoldsWrong : ChangeSpec := { name := "wayHolds", fn := fun _ => fun
  | [d1, d2] => { results := [.lit (.bool false)], args := [d1, d2] }
  | _ => none }
def WayHoldsWrongFalsely : Prop := wayHoldsRow.holds Try.pinned (OpenSpec.ofChange wayHoldsWrong)

/-- 'signalmanlaw13.WayLoses': WHATEVER THE INPUT: true; the input reads as it did. -/
def wayLosesSpec : ChangeSpec := { name := "wayLoses", fn := fun _ => fun
  | [d1, d2, d3] => { results := [.lit (.bool true)], args := [d1, d2, d3] }
  | _ => none }
def wayLosesRow : OpenClaim := { program := "ytmjogdhfndnbaaa", sum := "793c6525a88528000ce69f3a586cc6ce17e3611efbcb847ef7a45df4bf68be0b", func := "signalman/signalmanlaw13.WayLoses", spec := "wayLoses", unfollowed := true, recurses := true, apart := false }
def WayLosesSaid : Prop := wayLosesRow.holds Try.pinned (OpenSpec.ofChange wayLosesSpec)

/-- ITS FALSE NEIGHBOUR: 'it returns false'. Refute it at one input. -/
def wayLosesWrong : ChangeSpec := { name := "wayLoses", fn := fun _ => fun
  | [d1, d2, d3] => { results := [.lit (.bool false)], args := [d1, d2, d3] }
  | _ => none }
def WayLosesWrongFalsely : Prop := wayLosesRow.holds Try.pinned (OpenSpec.ofChange wayLosesWrong)

/- THE SECOND FORM. 'bulk': how many values and letters a reading holds, each counted each time it is reached (what is shared counts as often as it is met; a slice's spare places count too). A statement '..UptoSaid' is the law's where the arguments, and the package variables that the reading takes, are together of bulk at most 1048576: NARROWER than '..Said'. Prove '..Said' where nothing that the law and all that it calls make is longer than what came in: it says more and counts as full. Else prove '..UptoSaid'. A law counts once. -/
mutual
def uptoBulk {H : Type} : DataW H → Nat
  | .lit (.string bytes) => bytes.length + 1
  | .lit _ => 1
  | .nil => 1
  | .ptr d => uptoBulk d + 1
  | .slice elems spare => uptoBulkAll elems + uptoBulkAll spare + 1
  | .agg parts => uptoBulkAll parts + 1
  | .iface _ d => uptoBulk d + 1
  | .map entries => uptoBulkEntries entries + 1
  | .held _ => 1
def uptoBulkAll {H : Type} : List (DataW H) → Nat
  | [] => 0
  | d :: r => uptoBulk d + uptoBulkAll r
def uptoBulkEntries {H : Type} : List (Lit × DataW H) → Nat
  | [] => 0
  | x :: r => uptoBulkEntry x + uptoBulkEntries r
def uptoBulkEntry {H : Type} : Lit × DataW H → Nat
  | (.string bytes, d) => bytes.length + uptoBulk d + 1
  | (_, d) => uptoBulk d + 1
 end
def uptoSmall : (H : Type) → List (DataW H) → Bool := fun _ ds => decide (uptoBulkAll ds ≤ 1048576)
def OpenSpec.upto (s : _root_.Go.ChangeSpec) : _root_.Go.OpenSpec := { _root_.Go.OpenSpec.ofChange s with cond := some uptoSmall }

/-- 'signalmanlaw13.WayKinds', WHERE WHAT IT READS IS OF BULK AT MOST 1048576: true; the input reads as it did. -/
def wayKindsUptoRow : OpenClaim := { program := "ytmjogdhfndnbaaa", sum := "793c6525a88528000ce69f3a586cc6ce17e3611efbcb847ef7a45df4bf68be0b", func := "signalman/signalmanlaw13.WayKinds", spec := "wayKinds", unfollowed := true, recurses := true, apart := false, narrowed := true }
def WayKindsUptoSaid : Prop := wayKindsUptoRow.holds Try.pinned (OpenSpec.upto wayKindsSpec)

/-- 'signalmanlaw13.WayMost', WHERE WHAT IT READS IS OF BULK AT MOST 1048576: true; the input reads as it did. -/
def wayMostUptoRow : OpenClaim := { program := "ytmjogdhfndnbaaa", sum := "793c6525a88528000ce69f3a586cc6ce17e3611efbcb847ef7a45df4bf68be0b", func := "signalman/signalmanlaw13.WayMost", spec := "wayMost", apart := false, narrowed := true }
def WayMostUptoSaid : Prop := wayMostUptoRow.holds Try.pinned (OpenSpec.upto wayMostSpec)

/-- 'signalmanlaw13.WayHolds', WHERE WHAT IT READS IS OF BULK AT MOST 1048576: true; the input reads as it did. -/
def wayHoldsUptoRow : OpenClaim := { program := "ytmjogdhfndnbaaa", sum := "793c6525a88528000ce69f3a586cc6ce17e3611efbcb847ef7a45df4bf68be0b", func := "signalman/signalmanlaw13.WayHolds", spec := "wayHolds", unfollowed := true, recurses := true, apart := false, narrowed := true }
def WayHoldsUptoSaid : Prop := wayHoldsUptoRow.holds Try.pinned (OpenSpec.upto wayHoldsSpec)

/-- 'signalmanlaw13.WayLoses', WHERE WHAT IT READS IS OF BULK AT MOST 1048576: true; the input reads as it did. -/
def wayLosesUptoRow : OpenClaim := { program := "ytmjogdhfndnbaaa", sum := "793c6525a88528000ce69f3a586cc6ce17e3611efbcb847ef7a45df4bf68be0b", func := "signalman/signalmanlaw13.WayLoses", spec := "wayLoses", unfollowed := true, recurses := true, apart := false, narrowed := true }
def WayLosesUptoSaid : Prop := wayLosesUptoRow.holds Try.pinned (OpenSpec.upto wayLosesSpec)

end Rows
end Go.Proofs.Ytmjogdhfndnbaaa
