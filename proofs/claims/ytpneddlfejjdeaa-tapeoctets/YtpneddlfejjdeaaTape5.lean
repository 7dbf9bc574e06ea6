/- The contract of tape's Turn. -/
import Derived.Test.YtpneddlfejjdeaaTape4
import Derived.Laws.CopyOwn
namespace Go.Proofs.Ytpneddlfejjdeaa.Tape
open Go.ChangeShapes Go.WideShapes Go.ChangeAt Go.RowKit

/-- bs, of which the first k bits are turned where ms has a one. -/
def turnTo (bs ms : List Bool) (k : Nat) : List Bool := (List.range bs.length).map fun j => if j < k then (bs.getD j false ^^ ms.getD j false) else bs.getD j false
def turn (bs ms : List Bool) : List Bool := (List.range bs.length).map fun j => bs.getD j false ^^ ms.getD j false
theorem turnTo_len (bs ms : List Bool) (k : Nat) : (turnTo bs ms k).length = bs.length := by simp [turnTo]
theorem turn_len (bs ms : List Bool) : (turn bs ms).length = bs.length := by simp [turn]
theorem turnTo_zero (bs ms : List Bool) : turnTo bs ms 0 = bs := by
  apply List.ext_getElem
  · simp [turnTo]
  · intro i h1 h2; simp [turnTo, h2]
theorem turnTo_get (bs ms : List Bool) (k j : Nat) (h : j < bs.length) : (turnTo bs ms k)[j]'(by rw [turnTo_len]; exact h) = if j < k then (bs.getD j false ^^ ms.getD j false) else bs.getD j false := by simp [turnTo]
theorem turn_get (bs ms : List Bool) (j : Nat) (h : j < bs.length) : (turn bs ms)[j]'(by rw [turn_len]; exact h) = (bs.getD j false ^^ ms.getD j false) := by simp [turn]
theorem turnTo_no (bs ms : List Bool) (k : Nat) (hm : ms.getD k false = false) : turnTo bs ms (k + 1) = turnTo bs ms k := by
  apply List.ext_getElem
  · simp [turnTo]
  · intro i h1 h2
    have hi : i < bs.length := by simpa [turnTo_len] using h1
    rw [turnTo_get _ _ _ _ hi, turnTo_get _ _ _ _ hi]
    by_cases h : i = k
    · subst h; rw [hm]; simp
    · by_cases h' : i < k
      · rw [if_pos h', if_pos (by omega)]
      · rw [if_neg h', if_neg (by omega)]
theorem turnTo_yes (bs ms : List Bool) (k : Nat) (b : Bool) (hk : k < bs.length) (hb : bs[k] = b) (hm : ms.getD k false = true) : turnTo bs ms (k + 1) = (turnTo bs ms k).set k (!b) := by
  apply List.ext_getElem
  · simp [turnTo]
  · intro i h1 h2
    have hi : i < bs.length := by simpa [turnTo_len] using h1
    rw [turnTo_get _ _ _ _ hi, List.getElem_set, turnTo_get _ _ _ _ hi]
    by_cases h : k = i
    · subst h; rw [hm]; simp [hb, List.getD, hk]
    · rw [if_neg h]
      by_cases h' : i < k
      · rw [if_pos h', if_pos (by omega)]
      · rw [if_neg h', if_neg (by omega)]
theorem turnTo_end (bs ms : List Bool) (k : Nat) (hk : bs.length ≤ k ∨ ms.length ≤ k) : turnTo bs ms k = turn bs ms := by
  apply List.ext_getElem
  · simp [turnTo, turn]
  · intro i h1 h2
    have hi : i < bs.length := by simpa [turnTo_len] using h1
    rw [turnTo_get _ _ _ _ hi, turn_get _ _ _ hi]
    by_cases h' : i < k
    · rw [if_pos h']
    · rw [if_neg h']
      have : ms.length ≤ i := by omega
      simp [List.getD, List.getElem?_eq_none this]
theorem turn_turn (bs ms : List Bool) : turn (turn bs ms) ms = bs := by
  apply List.ext_getElem
  · simp [turn]
  · intro i h1 h2
    rw [turn_get _ _ _ (by rw [turn_len]; exact h2)]
    have e : (turn bs ms).getD i false = (bs.getD i false ^^ ms.getD i false) := by
      rw [← turn_get bs ms i h2]; simp [List.getD, turn_len, h2]
    rw [e]
    simp [List.getD, h2]

theorem row_set {w : World} {g : Nat} {cs : List Value} {t : TypeId} (h : w.heap[g]? = some (.cells cs.toArray t (0, 0))) (k : Nat) (v : Value) :
    (w.setCell ⟨g, k, none⟩ v).heap[g]? = some (.cells (cs.set k v).toArray t (0, 0)) := by
  obtain ⟨hlt, hk⟩ := Array.getElem?_eq_some_iff.1 h
  show (w.heap.modify g _)[g]? = _
  rw [Array.getElem?_eq_getElem (by rw [Array.size_modify]; exact hlt), Array.getElem_modify_self, hk]
  simp

theorem made_len (n : Nat) : (madeCells (Value.bool false).cells (n * 1)).toList.length = n := by simp [madeCells]

/-- copy of as many cells as a new row has. -/
theorem copy_run {w1 : World} {g m ca : Nat} {ao : Option Addr} {cur cs : List Value} (hg : w1.heap[g]? = some (.cells cur.toArray 4 (0, 0))) (hcur : cur.length = m) (hcl : cs.length = m)
    (hpos : 0 < cs.length → ∃ ad, ao = some ad ∧ ∀ j v, cs[j]? = some v → w1.cell? (ad.add j) = some v) (h1 : ∀ v ∈ cs, v.oneCell' = true) :
    ∃ w2, (Builtin.copy_ #[33, 33] 3 #[.slice (some ⟨g, 0, none⟩) m m, .slice ao m ca]).run Try.prog w1 = .ok (.int .i64 m) w2 ∧ w2.heap[g]? = some (.cells cs.toArray 4 (0, 0)) ∧ Below g w1 w2 := by
  obtain ⟨i0, hi, hz0, hz1, hz2⟩ := info_parts info4
  have hsz : (Try.prog.info? 4).map (·.size) = some 1 := by rw [hi]; simp [hz1]
  by_cases h0 : m = 0
  · subst h0
    have e1 : cs = [] := List.eq_nil_of_length_eq_zero hcl
    have e2 : cur = [] := List.eq_nil_of_length_eq_zero hcur
    subst e1 e2
    exact ⟨w1, run_copy_none w1 33 33 3 4 _ ao 0 0 0 ca Try.underlying33 hsz rfl, hg, Below.refl _ _⟩
  · obtain ⟨ad, rfl, hc⟩ := hpos (by omega)
    have hr := run_copy_row (P := Try.prog) w1 33 33 3 4 g 0 m m ad m ca cur.toArray 4 cs Try.underlying33 hsz hg (by rw [hcl]; exact (Nat.min_self m).symm) hc (by simp; omega) h1
    rw [hcl] at hr
    refine ⟨_, hr, ?_, below_setRow (Below.refl _ _) (Nat.le_refl _) _⟩
    rw [setRow_heap w1 g _ _ 4 _ hg]
    simp [List.drop_eq_nil_of_le (show cur.length ≤ m by omega)]

set_option maxRecDepth 100000 in
set_option maxHeartbeats 1000000 in
theorem turn_any (ao bo : Option Addr) (m n ca cb : Nat) (bs ms : List Bool) (w : World) (hm : bs.length = m) (hn : ms.length = n) (hl : m ≤ 1000000) (hl' : n ≤ 1000000) (ha : Reads w ao (bs.map .bool)) (hb : Reads w bo (ms.map .bool)) :
    Calls Try.prog 30 #[.slice ao m ca, .slice bo n cb] w fun e w' => ∃ v, e = .returned v ∧ w'.ownsRow w.heap.size 4 1 v m ((turn bs ms).map .bool) ∧ Below w.heap.size w w' := by
  obtain ⟨i0, hi, hz0, hz1, hz2⟩ := info_parts info4
  have HM : Hid (bs.length = m) := hm
  have HN : Hid (ms.length = n) := hn
  clear hm hn
  go_enter Try.func30, Try.ntmps30
  go_wp2_with (at_make; refine wpList_make_full _ rfl _ _ 33 rfl w.heap.size 4 i0 (.bool false) 1 Try.underlying33 hi hz0 hz1 _ _ _ _ m rfl rfl rfl rfl (by rw [hz2]; omega) (by unfold maxLen; omega) (Nat.le_refl _) ?_)
  intro w1 hown1 hgrow1
  have hb1 : Below w.heap.size w w1 := (Below.refl w.heap.size w).grown hgrow1 (Nat.le_refl _) (by simp)
  obtain ⟨cur, hg1, hcur⟩ : ∃ cur : List Value, w1.heap[w.heap.size]? = some (.cells cur.toArray 4 (0, 0)) ∧ cur.length = m := by
    rcases hown1.2 with ⟨h, _⟩ | ⟨g, cap, cur, hv, _, hg, _, _, hs, _⟩
    · cases h
    · simp only [Value.slice.injEq, Option.some.injEq, Addr.mk.injEq, and_true, true_and] at hv
      obtain ⟨rfl, rfl⟩ := hv
      exact ⟨cur.toList, by simpa using hg, by simpa using hs⟩
  have ha1 := ha.below (Nat.le_refl _) hb1
  clear hown1 hgrow1
  obtain ⟨cs, hcs⟩ : ∃ cs : List Value, cs = bs.map .bool := ⟨_, rfl⟩
  rw [← hcs] at ha1
  have hcl : cs.length = m := by rw [hcs, List.length_map]; exact HM.out
  have h1c : ∀ v ∈ cs, v.oneCell' = true := by intro v hv; rw [hcs] at hv; obtain ⟨b, _, rfl⟩ := List.mem_map.1 hv; rfl
  have hpos : 0 < cs.length → ∃ ad, ao = some ad ∧ ∀ j v, cs[j]? = some v → w1.cell? (ad.add j) = some v := by
    intro h0
    obtain ⟨g, off, rfl, _⟩ := ha1 0 cs[0] (by simp [h0])
    refine ⟨_, rfl, fun j v hj => ?_⟩
    obtain ⟨g', off', e, hc⟩ := ha1 j v hj
    simp only [Option.some.injEq, Addr.mk.injEq, and_true] at e
    obtain ⟨rfl, rfl⟩ := e
    rw [Addr.add_lit]
    exact hc
  obtain ⟨w2, hrun, hg2, hB2⟩ := copy_run (ca := ca) hg1 hcur hcl hpos h1c
  have hb2 := hb1.trans (hB2.mono (Nat.le_refl _))
  rw [hcs] at hg2
  have HG2 : Hid (w2.heap[w.heap.size]? = some (.cells (bs.map Value.bool).toArray 4 (0, 0))) := hg2
  clear hpos hcl hcur hcs ha1 hg1 h1c hg2
  go_wp2
  clear hrun hB2 hb1
  go_loopw [18] (fun i wr => ∃ k : Nat, k ≤ m ∧ k ≤ n ∧ i = .int .i64 k ∧ wr.heap[w.heap.size]? = some (.cells ((turnTo bs ms k).map Value.bool).toArray 4 (0, 0)) ∧ Below w.heap.size w wr) (fun i _ => m - (intOf i).toNat)
  case atStart => exact ⟨0, by omega, by omega, rfl, by rw [turnTo_zero]; exact HG2.out, hb2⟩
  case round =>
    clear hb2 HG2
    obtain ⟨k, hk, hk', rfl, hg, hbl⟩ := hrel
    by_cases hlt : k < m ∧ k < n
    · have hkm : k < bs.length := by have := HM.out; omega
      have hkn : k < ms.length := by have := HN.out; omega
      have h1 : k < m := hlt.1
      have h2 : k < n := hlt.2
      have hmin : (k : Int) < min (m : Int) (n : Int) := by omega
      obtain ⟨g, off, rfl, hc0⟩ := hb.bool k hkn
      have hc := (hbl.cell (p := ⟨g, off + k, none⟩) (World.block_lt_of_cell? w _ hc0)).trans hc0
      obtain ⟨t, ht⟩ : ∃ b, ms[k] = b := ⟨_, rfl⟩
      rw [ht] at hc
      have hgd : Hid (ms.getD k false = t) := by show ms.getD k false = t; simp [List.getD, hkn, ht]
      obtain ⟨b, hbb⟩ : ∃ b, bs[k] = b := ⟨_, rfl⟩
      have hcb : wr.cell? ⟨w.heap.size, k, none⟩ = some (.bool b) := by
        rw [Lib.cell_of_heap hg]
        have e := turnTo_get bs ms k k hkm
        simp only [Nat.lt_irrefl, if_false] at e
        simp [turnTo_len, hkm, e, hbb]
      have hfz : wr.frozen? ⟨w.heap.size, k, none⟩ = false := Lib.frozen_of_heap hg k
      have HB : Hid (bs[k] = b) := hbb
      have hset := row_set hg k (.bool (!b))
      rw [← List.map_set] at hset
      have HSET : Hid ((wr.setCell ⟨w.heap.size, k, none⟩ (.bool (!b))).heap[w.heap.size]? = some (.cells (((turnTo bs ms k).set k (!b)).map Value.bool).toArray 4 (0, 0))) := hset
      have HG : Hid (wr.heap[w.heap.size]? = some (.cells ((turnTo bs ms k).map Value.bool).toArray 4 (0, 0))) := hg
      clear ht hbb hset hg hc0 hlt
      cases t
      · go_wp2
        go_roundw
        case rel => exact ⟨k + 1, by omega, by omega, by go_num, by rw [turnTo_no bs ms k hgd.out]; exact HG.out, hbl⟩
        case measure => simp [intOf]; omega
      · go_wp2
        go_roundw
        case rel => exact ⟨k + 1, by omega, by omega, by go_num, by rw [turnTo_yes bs ms k b hkm HB.out hgd.out]; exact HSET.out, hbl.setCell (p := ⟨w.heap.size, k, none⟩) (Nat.le_refl _) _⟩
        case measure => simp [intOf]; omega
    · have hmin : ¬ (k : Int) < min (m : Int) (n : Int) := by omega
      rw [turnTo_end bs ms k (by have := HM.out; have := HN.out; omega)] at hg
      have HG : Hid (wr.heap[w.heap.size]? = some (.cells ((turn bs ms).map Value.bool).toArray 4 (0, 0))) := hg
      clear hg
      go_wp2
      go_ret
      refine ⟨_, rfl, ⟨?_, .inr ⟨w.heap.size, m, _, rfl, Nat.le_refl _, HG.out, Nat.le_refl _, by unfold maxLen; omega, ?_, ?_⟩⟩, hbl⟩
      · rw [List.length_map, turn_len, HM.out]; omega
      · simp [turn_len, HM.out]
      · simp
        rw [List.take_of_length_le (by rw [List.length_map, turn_len, HM.out]; omega)]
end Go.Proofs.Ytpneddlfejjdeaa.Tape
