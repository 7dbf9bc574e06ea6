/- The contracts of tape's readers: Ones, Run, Low, Same. -/
import Derived.Test.YtmmdefphgddcdaaRows
import Derived.Test.YtmmdefphgddcdaaBits
import Derived.Deep.QuietTactic
import Derived.BigQuiet
namespace Go.Proofs.Ytmmdefphgddcdaa.Tape
open Go.ChangeShapes Go.WideShapes Go.ChangeAt Go.RowKit

theorem ret_int {k : IntKind} {a b : Int} (h : a = b) : Ending.returned (.int k a) = .returned (.int k b) := by rw [h]

theorem drop_cons {α : Type} (l : List α) (k : Nat) (h : k < l.length) : l.drop k = l[k] :: l.drop (k + 1) := List.drop_eq_getElem_cons h

theorem take_step {cs bs : List Bool} {k : Nat} (ha : k < cs.length) (hb : k < bs.length) (h : cs.take k = bs.take k) (e : cs[k] = bs[k]) : cs.take (k + 1) = bs.take (k + 1) := by
  rw [List.take_succ_eq_append_getElem ha, List.take_succ_eq_append_getElem hb, h, e]

end Go.Proofs.Ytmmdefphgddcdaa.Tape
