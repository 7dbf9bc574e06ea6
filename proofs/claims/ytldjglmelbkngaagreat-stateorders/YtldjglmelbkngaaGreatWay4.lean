/- The contract of way's Status. -/
import Derived.Test.YtldjglmelbkngaaGreatWay3
namespace Go.Proofs.YtldjglmelbkngaaGreat.Tape
open Go.ChangeShapes Go.WideShapes Go.ChangeAt Go.RowKit
set_option linter.unusedVariables false

attribute [local go_sem ↓] ldU_def stU_def
attribute [local go_sem] m_fill c_fill

/-- The unit that tells a status. -/
def stUnit (x : Wt) (s : Hs) (st : Int) : Array Value := #[.int .u8 x.last, .int .u8 s.last, .bool x.bib, .bool x.fib, .int .u8 1, .int .u8 st, .bool false, .slice none 0 0]

set_option maxRecDepth 100000 in
set_option maxHeartbeats 1000000 in
theorem status_any (c : Bool) (st : Int) (p hb B : Nat) (T0 : Nat → Prop) (x : Wt) (s : Hs) (w : World) (h : WayIn w p hb B T0 x s) (hx : x.cyclic = c) :
    Calls Tryz.prog 42 #[.iface (wT c) (.pointer (some ⟨p, 0, none⟩)), .int .u8 st] w fun e w' => e = .returned (.agg (stUnit x s st)) ∧ Below w.heap.size w w' := by
  obtain ⟨W, hW, hB, hh⟩ := new_unit w
  have hfi := wfill_any p hb B T0 x s W (h.below hB)
  rw [hx] at hfi
  have HB : Hid (Below w.heap.size w W) := hB
  have HH : Hid (W.heap[w.heap.size]? = some (.cells zeroU 32 (0, 0))) := hh
  clear h hB hh
  go_enter Tryz.func42, Tryz.ntmps42
  go_upto_region 1 with fail
  rw [← hW]
  clear hW
  go_wp2_with fail
  refine hfi.mono ?_
  rintro e w1 ⟨rfl, hB1⟩
  have hh1 := (hB1.block _ (heap_lt HH.out)).trans HH.out
  obtain ⟨W2, hst2, hB2, hh2⟩ := kept_any w1 (uC x.last s.last x.bib x.fib 0 (.slice none 0 0)) rfl (uC_one _ _ _ _ _ _ _ _)
  have hh1' := (hB2.block _ (heap_lt hh1)).trans hh1
  have hne : w.heap.size ≠ w1.heap.size := Nat.ne_of_lt (heap_lt hh1)
  have hB02 : Below w.heap.size w W2 := HB.out.trans (below_le (hB1.trans (below_le hB2 hB1.size)) HB.out.size)
  -- the two cells that are written
  obtain ⟨W3, hW3⟩ : ∃ W3, W3 = (W2.setCell ⟨w1.heap.size, 4, none⟩ (.int .u8 1)).setCell ⟨w1.heap.size, 5, none⟩ (.int .u8 st) := ⟨_, rfl⟩
  have hh2' : W2.heap[w1.heap.size]? = some (.cells [.int .u8 x.last, .int .u8 s.last, .bool x.bib, .bool x.fib, .int .u8 0, .int .u8 0, .bool false, .slice none 0 0].toArray 32 (0, 0)) := hh2
  have hh3 : W3.heap[w1.heap.size]? = some (.cells (stUnit x s st) 32 (0, 0)) := by
    rw [hW3]
    exact row_set (row_set hh2' 4 (.int .u8 1)) 5 (.int .u8 st)
  have hg3 : W2.grownBy W3 (some w1.heap.size) := by
    rw [hW3]
    exact (gb_set _).trans (gb_set _)
  have hB03 := gb_below hg3 hB02 (by have := heap_lt hh1; omega) hB02.size
  have hr3 : W3.heap[w.heap.size]? = some (.cells zeroU 32 (0, 0)) := (hg3.block _ (heap_lt hh1') (fun e => hne (by simpa using e))).trans hh1'
  have hld := (ld_unit hh3 rfl).1
  have hst4 := st_unit (ds := stUnit x s st) hr3 rfl rfl (by simp [stUnit, Value.oneCell'])
  have hB04 := gb_below (putU_gb W3 w.heap.size (stUnit x s st)) hB03 (Nat.le_refl _) hB03.size
  have hld4 := (ld_unit (putU_heap (ds := stUnit x s st) hr3 rfl) rfl).2
  generalize putU W3 w.heap.size (stUnit x s st) = W4 at *
  obtain ⟨⟨-, -, -, -, c4, c5, -⟩, hfz⟩ := unit_cells hh2
  have f4 := hfz 4
  have f5 : (W2.setCell ⟨w1.heap.size, 4, none⟩ (.int .u8 1)).frozen? ⟨w1.heap.size, 5, none⟩ = false := (unit_cells (row_set hh2' 4 (.int .u8 1))).2 5
  have HL : Hid ((loadVar 32 ⟨w.heap.size, 0, none⟩).run Tryz.prog W4 = .ok (.agg (stUnit x s st)) W4) := hld4
  have HB4 : Hid (Below w.heap.size w W4) := hB04
  clear hB1 hh1 hB2 hh1' hne hB02 hh2' hh2 hh3 hg3 hB03 hr3 hB04 hld4 hfi hfz
  go_upto_region 4 with fail
  go_upto_region 5 with fail
  rw [← hW3]
  clear hW3
  go_wp2_with fail
  refine bodyPost_ret (v := .agg (stUnit x s st)) (by simp [results, Tryz.results42, asAddr, HL.out]) rfl ?_
  exact ⟨rfl, HB4.out⟩
end Go.Proofs.YtldjglmelbkngaaGreat.Tape
