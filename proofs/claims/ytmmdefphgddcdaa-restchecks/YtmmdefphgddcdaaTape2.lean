/- The contracts of strings.Builder's WriteByte (of a used builder), of tape's Text, and of the reference's Text and Same. -/
import Derived.Test.YtmmdefphgddcdaaTape1
import Derived.Lib.UnsafeStr
import Derived.Laws.IdiomStrings
import Derived.Maps.AppendAt
import Derived.RangeFuncBox
namespace Go.Proofs.Ytmmdefphgddcdaa.Tape
open Go.ChangeShapes Go.WideShapes Go.ChangeAt Go.RowKit

theorem info5 : (Try.prog.info? 5).map (fun i => (i.zero, i.size, i.bytes)) = some (some (.int .u8 0), 1, 1) := by kernel_rfl
theorem info4 : (Try.prog.info? 4).map (fun i => (i.zero, i.size, i.bytes)) = some (some (.bool false), 1, 1) := by kernel_rfl

theorem take_snoc {α : Type} (l : List α) (k : Nat) (h : k < l.length) : l.take (k + 1) = l.take k ++ [l[k]] := List.take_succ_eq_append_getElem h

theorem cells_snoc (bs : List Bool) (k : Nat) (h : k < bs.length) (b : Bool) (c : Int) (hb : bs[k] = b) (hc : c = if b then 49 else 48) :
    Lib.byteCells (txt (bs.take (k + 1))) = Lib.byteCells (txt (bs.take k)) ++ [.int .u8 c] := by
  rw [take_snoc bs k h, hb, txt_snoc, Lib.byteCells_append]
  subst hc
  cases b <;> rfl

/-- string(p) of octets that the slice owns. -/
theorem conv_owns {w : World} {base n : Nat} {v : Value} {l : List UInt8} (h : w.ownsRow base 5 1 v n (Lib.byteCells l)) : (convert 22 9 v).run Try.prog w = .ok (.string ⟨l.toArray⟩) w := by
  have hn : l.length = n := by have := h.1; rw [Lib.byteCells_length] at this; omega
  rcases h.2 with ⟨rfl, h0⟩ | ⟨g, cap, cur, rfl, _⟩
  · have hl : l = [] := List.eq_nil_of_length_eq_zero (by omega)
    subst hl
    exact run_convert_bytes_nil w 22 5 Try.underlying22 Try.underlying5 0 0 9 Try.underlying9
  · subst hn
    exact run_convert_bytes_back w 22 9 5 ⟨g, 0, none⟩ cap l Try.underlying22 Try.underlying5 Try.underlying9 (fun j hj => h.cells rfl j _ (by simp [Lib.byteCells, hj]))

theorem txt_beq (cs bs : List Bool) : (txt cs == txt bs) = decide (cs = bs) := by
  rw [Bool.eq_iff_iff, beq_iff_eq, decide_eq_true_iff]
  exact ⟨txt_inj, fun e => by rw [e]⟩

end Go.Proofs.Ytmmdefphgddcdaa.Tape
