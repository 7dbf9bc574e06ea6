/- The contract of tape's Turn. -/
import Derived.Test.YtfjfnfofbhikdaaTape4
import Derived.Laws.CopyOwn
namespace Go.Proofs.Ytfjfnfofbhikdaa.Tape
open Go.ChangeShapes Go.WideShapes Go.ChangeAt Go.RowKit

/-- bs, of which the first k bits are turned where ms has a one. -/
def turnTo (bs ms : List Bool) (k : Nat) : List Bool := (List.range bs.length).map fun j => if j < k then (bs.getD j false ^^ ms.getD j false) else bs.getD j false
def turn (bs ms : List Bool) : List Bool := (List.range bs.length).map fun j => bs.getD j false ^^ ms.getD j false
theorem turnTo_len (bs ms : List Bool) (k : Nat) : (turnTo bs ms k).length = bs.length := by simp [turnTo]
theorem turn_len (bs ms : List Bool) : (turn bs ms).length = bs.length := by simp [turn]
theorem turnTo_zero (bs ms : List Bool) : turnTo bs ms 0 = bs := by
  apply List.ext_getElem
  · simp [turnTo]
  · intro i h1 h2; simp [turnTo, h2]
theorem turnTo_get (bs ms : List Bool) (k j : Nat) (h : j < bs.length) : (turnTo bs ms k)[j]'(by rw [turnTo_len]; exact h) = if j < k then (bs.getD j false ^^ ms.getD j false) else bs.getD j false := by simp [turnTo]
theorem turn_get (bs ms : List Bool) (j : Nat) (h : j < bs.length) : (turn bs ms)[j]'(by rw [turn_len]; exact h) = (bs.getD j false ^^ ms.getD j false) := by simp [turn]
theorem turnTo_no (bs ms : List Bool) (k : Nat) (hm : ms.getD k false = false) : turnTo bs ms (k + 1) = turnTo bs ms k := by
  apply List.ext_getElem
  · simp [turnTo]
  · intro i h1 h2
    have hi : i < bs.length := by simpa [turnTo_len] using h1
    rw [turnTo_get _ _ _ _ hi, turnTo_get _ _ _ _ hi]
    by_cases h : i = k
    · subst h; rw [hm]; simp
    · by_cases h' : i < k
      · rw [if_pos h', if_pos (by omega)]
      · rw [if_neg h', if_neg (by omega)]
theorem turnTo_yes (bs ms : List Bool) (k : Nat) (b : Bool) (hk : k < bs.length) (hb : bs[k] = b) (hm : ms.getD k false = true) : turnTo bs ms (k + 1) = (turnTo bs ms k).set k (!b) := by
  apply List.ext_getElem
  · simp [turnTo]
  · intro i h1 h2
    have hi : i < bs.length := by simpa [turnTo_len] using h1
    rw [turnTo_get _ _ _ _ hi, List.getElem_set, turnTo_get _ _ _ _ hi]
    by_cases h : k = i
    · subst h; rw [hm]; simp [hb, List.getD, hk]
    · rw [if_neg h]
      by_cases h' : i < k
      · rw [if_pos h', if_pos (by omega)]
      · rw [if_neg h', if_neg (by omega)]
theorem turnTo_end (bs ms : List Bool) (k : Nat) (hk : bs.length ≤ k ∨ ms.length ≤ k) : turnTo bs ms k = turn bs ms := by
  apply List.ext_getElem
  · simp [turnTo, turn]
  · intro i h1 h2
    have hi : i < bs.length := by simpa [turnTo_len] using h1
    rw [turnTo_get _ _ _ _ hi, turn_get _ _ _ hi]
    by_cases h' : i < k
    · rw [if_pos h']
    · rw [if_neg h']
      have : ms.length ≤ i := by omega
      simp [List.getD, List.getElem?_eq_none this]
theorem turn_turn (bs ms : List Bool) : turn (turn bs ms) ms = bs := by
  apply List.ext_getElem
  · simp [turn]
  · intro i h1 h2
    rw [turn_get _ _ _ (by rw [turn_len]; exact h2)]
    have e : (turn bs ms).getD i false = (bs.getD i false ^^ ms.getD i false) := by
      rw [← turn_get bs ms i h2]; simp [List.getD, turn_len, h2]
    rw [e]
    simp [List.getD, h2]

theorem row_set {w : World} {g : Nat} {cs : List Value} {t : TypeId} (h : w.heap[g]? = some (.cells cs.toArray t (0, 0))) (k : Nat) (v : Value) :
    (w.setCell ⟨g, k, none⟩ v).heap[g]? = some (.cells (cs.set k v).toArray t (0, 0)) := by
  obtain ⟨hlt, hk⟩ := Array.getElem?_eq_some_iff.1 h
  show (w.heap.modify g _)[g]? = _
  rw [Array.getElem?_eq_getElem (by rw [Array.size_modify]; exact hlt), Array.getElem_modify_self, hk]
  simp

theorem made_len (n : Nat) : (madeCells (Value.bool false).cells (n * 1)).toList.length = n := by simp [madeCells]

/-- copy of as many cells as a new row has. -/
theorem copy_run {w1 : World} {g m ca : Nat} {ao : Option Addr} {cur cs : List Value} (hg : w1.heap[g]? = some (.cells cur.toArray 4 (0, 0))) (hcur : cur.length = m) (hcl : cs.length = m)
    (hpos : 0 < cs.length → ∃ ad, ao = some ad ∧ ∀ j v, cs[j]? = some v → w1.cell? (ad.add j) = some v) (h1 : ∀ v ∈ cs, v.oneCell' = true) :
    ∃ w2, (Builtin.copy_ #[27, 27] 3 #[.slice (some ⟨g, 0, none⟩) m m, .slice ao m ca]).run Try.prog w1 = .ok (.int .i64 m) w2 ∧ w2.heap[g]? = some (.cells cs.toArray 4 (0, 0)) ∧ Below g w1 w2 := by
  obtain ⟨i0, hi, hz0, hz1, hz2⟩ := info_parts info4
  have hsz : (Try.prog.info? 4).map (·.size) = some 1 := by rw [hi]; simp [hz1]
  by_cases h0 : m = 0
  · subst h0
    have e1 : cs = [] := List.eq_nil_of_length_eq_zero hcl
    have e2 : cur = [] := List.eq_nil_of_length_eq_zero hcur
    subst e1 e2
    exact ⟨w1, run_copy_none w1 27 27 3 4 _ ao 0 0 0 ca Try.underlying27 hsz rfl, hg, Below.refl _ _⟩
  · obtain ⟨ad, rfl, hc⟩ := hpos (by omega)
    have hr := run_copy_row (P := Try.prog) w1 27 27 3 4 g 0 m m ad m ca cur.toArray 4 cs Try.underlying27 hsz hg (by rw [hcl]; exact (Nat.min_self m).symm) hc (by simp; omega) h1
    rw [hcl] at hr
    refine ⟨_, hr, ?_, below_setRow (Below.refl _ _) (Nat.le_refl _) _⟩
    rw [setRow_heap w1 g _ _ 4 _ hg]
    simp [List.drop_eq_nil_of_le (show cur.length ≤ m by omega)]

end Go.Proofs.Ytfjfnfofbhikdaa.Tape
