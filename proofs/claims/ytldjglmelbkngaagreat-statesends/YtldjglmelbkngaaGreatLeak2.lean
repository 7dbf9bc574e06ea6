/- Units of a zero Leak; the contract of Units. -/
import Derived.Test.YtldjglmelbkngaaGreatLeak1
namespace Go.Proofs.YtldjglmelbkngaaGreat.Tape
open Go.ChangeShapes Go.WideShapes Go.ChangeAt Go.RowKit

/-- At which place a Leak fails, from place k on; -1: it does not. -/
def fails (l : Lk) : List Bool → Nat → Int
  | [], _ => -1
  | b :: bs, k => if 64 ≤ (l.unit b).n then k else fails (l.unit b) bs (k + 1)

theorem unit_s (l : Lk) (b : Bool) (h : l.s ≤ 255) : (l.unit b).s ≤ 255 := by
  obtain ⟨n, s⟩ := l
  simp only [Lk.unit, Lk.new, Lk.old] at *
  repeat' split
  all_goals simp_all
  all_goals omega

theorem unit_n (l : Lk) (b : Bool) : (l.unit b).n ≤ l.n + 1 := by
  obtain ⟨n, s⟩ := l
  simp only [Lk.unit, Lk.new, Lk.old] at *
  repeat' split
  all_goals simp_all
  all_goals omega

theorem leak_cells {w : World} {b : Nat} {x y : Value} {t : TypeId} (h : w.heap[b]? = some (.cells #[x, y] t (0, 0))) :
    w.cell? ⟨b, 0, none⟩ = some x ∧ w.cell? ⟨b, 1, none⟩ = some y ∧ w.frozen? ⟨b, 0, none⟩ = false ∧ w.frozen? ⟨b, 1, none⟩ = false := by
  refine ⟨?_, ?_, Lib.frozen_of_heap h 0, Lib.frozen_of_heap h 1⟩ <;> rw [Lib.cell_of_heap h] <;> rfl

theorem leak_put {w : World} {b : Nat} {x y : Value} {t : TypeId} (h : w.heap[b]? = some (.cells #[x, y] t (0, 0))) (x' y' : Value) : ((w.setCell ⟨b, 0, none⟩ x').setCell ⟨b, 1, none⟩ y').heap[b]? = some (.cells #[x', y'] t (0, 0)) :=
  row_set (cs := [x', y]) (row_set (cs := [x, y]) h 0 x') 1 y'

theorem put_below {w0 w : World} {base b : Nat} (h : Below base w0 w) (hB : base ≤ b) (x y : Value) : Below base w0 ((w.setCell ⟨b, 0, none⟩ x).setCell ⟨b, 1, none⟩ y) := (h.setCell hB x).setCell hB y

theorem block_keep {w w' : World} {b : Nat} {x : Obj} (h : w.heap[b]? = some x) (hb : Below w.heap.size w w') : w'.heap[b]? = some x := (hb.block b (heap_lt h)).trans h

end Go.Proofs.YtldjglmelbkngaaGreat.Tape
