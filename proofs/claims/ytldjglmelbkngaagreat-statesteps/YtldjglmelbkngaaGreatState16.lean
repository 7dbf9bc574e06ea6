/- The contracts of state.New, of the law's quick, link, fill. -/
import Derived.Test.YtldjglmelbkngaaGreatState2
import Derived.Test.YtldjglmelbkngaaGreatSetup2
import Derived.Test.YtldjglmelbkngaaGreatJam2
import Derived.Test.YtldjglmelbkngaaGreatWay4
import Derived.Deep.RegionHeld
import Derived.Deep.QuietTactic
import Derived.BigQuiet
namespace Go.Proofs.YtldjglmelbkngaaGreat.Tape
open Go.ChangeShapes Go.WideShapes Go.ChangeAt Go.RowKit
set_option linter.unusedVariables false

attribute [local go_sem ↓] ldU_def stU_def

/-- The law's timers. -/
def qT (k : Nat) : Int := [5, 40, 60, 50, 10, 6, 30, 25].getD k 1
theorem qT_ok (k : Nat) : 1 ≤ qT k ∧ qT k ≤ 4294967296 := by
  have : k = 0 ∨ k = 1 ∨ k = 2 ∨ k = 3 ∨ k = 4 ∨ k = 5 ∨ k = 6 ∨ k = 7 ∨ 8 ≤ k := by omega
  rcases this with rfl | rfl | rfl | rfl | rfl | rfl | rfl | rfl | h
  · decide
  · decide
  · decide
  · decide
  · decide
  · decide
  · decide
  · decide
  · have : qT k = 1 := by unfold qT; rw [List.getD_eq_getElem?_getD, List.getElem?_eq_none (by simpa using h)]; rfl
    rw [this]; decide

/-- The law's setup. -/
def qC (c : Bool) : Array Value := #[.bool c, .int .i64 8, .int .i64 300, .int .i64 16, .int .i64 600, .int .i64 5, .int .i64 40, .int .i64 60, .int .i64 50, .int .i64 10, .int .i64 6, .int .i64 30, .int .i64 25]

/-- A new State. -/
def st0 (c : Bool) : St := ⟨0, al0 qT (List.replicate 8 0), ja0 qT (List.replicate 8 0), wt0 c 8 300, ⟨16, 600, 0, [], []⟩, false, false, false, lk0, [], 0⟩

set_option maxRecDepth 100000 in
set_option maxHeartbeats 1000000 in
theorem link_any (s : Int) (w : World) : Calls Tryz.prog 31 #[.int .u8 s] w fun e w' => e = .returned (.agg #[.int .u8 127, .int .u8 127, .bool true, .bool true, .int .u8 1, .int .u8 s, .bool false, .slice none 0 0]) ∧ Below w.heap.size w w' := by
  obtain ⟨W, hW, hB, hh⟩ := new_unit w
  have hs9 := st_unit (ds := #[.int .u8 127, .int .u8 127, .bool true, .bool true, .int .u8 1, .int .u8 s, .bool false, .slice none 0 0]) hh rfl rfl (by simp [Value.oneCell'])
  have HL9 : Hid ((loadVar 32 ⟨w.heap.size, 0, none⟩).run Tryz.prog (putU W w.heap.size #[.int .u8 127, .int .u8 127, .bool true, .bool true, .int .u8 1, .int .u8 s, .bool false, .slice none 0 0]) = .ok (.agg #[.int .u8 127, .int .u8 127, .bool true, .bool true, .int .u8 1, .int .u8 s, .bool false, .slice none 0 0]) (putU W w.heap.size #[.int .u8 127, .int .u8 127, .bool true, .bool true, .int .u8 1, .int .u8 s, .bool false, .slice none 0 0])) := (ld_unit (putU_heap (ds := #[.int .u8 127, .int .u8 127, .bool true, .bool true, .int .u8 1, .int .u8 s, .bool false, .slice none 0 0]) hh rfl) rfl).2
  have HB : Hid (Below w.heap.size w (putU W w.heap.size #[.int .u8 127, .int .u8 127, .bool true, .bool true, .int .u8 1, .int .u8 s, .bool false, .slice none 0 0])) := gb_below (putU_gb _ _ _) hB (Nat.le_refl _) hB.size
  clear hB hh
  generalize putU W w.heap.size #[.int .u8 127, .int .u8 127, .bool true, .bool true, .int .u8 1, .int .u8 s, .bool false, .slice none 0 0] = W9 at *
  go_enter Tryz.func31, Tryz.ntmps31
  go_upto_region 1 with fail
  rw [← hW]
  clear hW
  go_wp2_with fail
  refine bodyPost_ret (v := .agg #[.int .u8 127, .int .u8 127, .bool true, .bool true, .int .u8 1, .int .u8 s, .bool false, .slice none 0 0]) (by simp [results, Tryz.results31, asAddr, HL9.out]) rfl ?_
  exact ⟨rfl, HB.out⟩

set_option maxRecDepth 100000 in
set_option maxHeartbeats 1000000 in
theorem lfill_any (w : World) : Calls Tryz.prog 25 #[] w fun e w' => e = .returned (.agg #[.int .u8 127, .int .u8 127, .bool true, .bool true, .int .u8 0, .int .u8 0, .bool false, .slice none 0 0]) ∧ Below w.heap.size w w' := by
  obtain ⟨W, hW, hB, hh⟩ := new_unit w
  have hs9 := st_unit (ds := #[.int .u8 127, .int .u8 127, .bool true, .bool true, .int .u8 0, .int .u8 0, .bool false, .slice none 0 0]) hh rfl rfl (by simp [Value.oneCell'])
  have HL9 : Hid ((loadVar 32 ⟨w.heap.size, 0, none⟩).run Tryz.prog (putU W w.heap.size #[.int .u8 127, .int .u8 127, .bool true, .bool true, .int .u8 0, .int .u8 0, .bool false, .slice none 0 0]) = .ok (.agg #[.int .u8 127, .int .u8 127, .bool true, .bool true, .int .u8 0, .int .u8 0, .bool false, .slice none 0 0]) (putU W w.heap.size #[.int .u8 127, .int .u8 127, .bool true, .bool true, .int .u8 0, .int .u8 0, .bool false, .slice none 0 0])) := (ld_unit (putU_heap (ds := #[.int .u8 127, .int .u8 127, .bool true, .bool true, .int .u8 0, .int .u8 0, .bool false, .slice none 0 0]) hh rfl) rfl).2
  have HB : Hid (Below w.heap.size w (putU W w.heap.size #[.int .u8 127, .int .u8 127, .bool true, .bool true, .int .u8 0, .int .u8 0, .bool false, .slice none 0 0])) := gb_below (putU_gb _ _ _) hB (Nat.le_refl _) hB.size
  clear hB hh
  generalize putU W w.heap.size #[.int .u8 127, .int .u8 127, .bool true, .bool true, .int .u8 0, .int .u8 0, .bool false, .slice none 0 0] = W9 at *
  go_enter Tryz.func25, Tryz.ntmps25
  go_upto_region 1 with fail
  rw [← hW]
  clear hW
  go_wp2_with fail
  refine bodyPost_ret (v := .agg #[.int .u8 127, .int .u8 127, .bool true, .bool true, .int .u8 0, .int .u8 0, .bool false, .slice none 0 0]) (by simp [results, Tryz.results25, asAddr, HL9.out]) rfl ?_
  exact ⟨rfl, HB.out⟩

theorem infoQ : (Tryz.prog.info? 28).map (·.size) = some 13 := by kernel_rfl
theorem ld_q {w : World} {B : Nat} {cs : Array Value} (h : w.heap[B]? = some (.cells cs 28 (0, 0))) (hs : cs.size = 13) : (loadVar 28 ⟨B, 0, none⟩).run Tryz.prog w = .ok (.agg cs) w := by
  have := run_loadVar_mid (P := Tryz.prog) w B 0 28 cs.toList _ (range_all h) Tryz.underlying28 rfl (by rw [infoQ]; simp [hs])
  simpa using this

set_option maxRecDepth 100000 in
set_option maxHeartbeats 1000000 in
theorem quick_any (c : Bool) (w : World) : Calls Tryz.prog 17 #[.bool c] w fun e w' => e = .returned (.agg (qC c)) ∧ Below w.heap.size w w' := by
  have hus := fun Y => usual_any c Y
  have hh0 := heap_alloc_new w (.cells #[.bool false, .int .i64 0, .int .i64 0, .int .i64 0, .int .i64 0, .int .i64 0, .int .i64 0, .int .i64 0, .int .i64 0, .int .i64 0, .int .i64 0, .int .i64 0, .int .i64 0] 28)
  have hB0 := (Below.refl w.heap.size w).alloc (Nat.le_refl _) (.cells #[.bool false, .int .i64 0, .int .i64 0, .int .i64 0, .int .i64 0, .int .i64 0, .int .i64 0, .int .i64 0, .int .i64 0, .int .i64 0, .int .i64 0, .int .i64 0, .int .i64 0] 28)
  obtain ⟨W, hW⟩ : ∃ W, W = w.alloc (.cells #[.bool false, .int .i64 0, .int .i64 0, .int .i64 0, .int .i64 0, .int .i64 0, .int .i64 0, .int .i64 0, .int .i64 0, .int .i64 0, .int .i64 0, .int .i64 0, .int .i64 0] 28) := ⟨_, rfl⟩
  rw [← hW] at hh0 hB0
  have HH : Hid (W.heap[w.heap.size]? = some (.cells #[.bool false, .int .i64 0, .int .i64 0, .int .i64 0, .int .i64 0, .int .i64 0, .int .i64 0, .int .i64 0, .int .i64 0, .int .i64 0, .int .i64 0, .int .i64 0, .int .i64 0] 28 (0, 0)) ∧ Below w.heap.size w W) := ⟨hh0, hB0⟩
  clear hh0 hB0
  go_enter Tryz.func17, Tryz.ntmps17
  go_upto_region 1 with fail
  rw [← hW]
  clear hW
  go_wp2_with fail
  refine (hus _).mono ?_
  rintro e w1 ⟨rfl, hB1⟩
  clear hus
  have hh1 : (w1.alloc (.cells (qC c) 28)).heap[w.heap.size]? = some (.cells #[.bool false, .int .i64 0, .int .i64 0, .int .i64 0, .int .i64 0, .int .i64 0, .int .i64 0, .int .i64 0, .int .i64 0, .int .i64 0, .int .i64 0, .int .i64 0, .int .i64 0] 28 (0, 0)) := heap_more ((hB1.block _ (heap_lt HH.out.1)).trans HH.out.1) _
  have hB2 : Below w.heap.size w (w1.alloc (.cells (qC c) 28)) := (HH.out.2.trans (below_le hB1 HH.out.2.size)).alloc (Nat.le_trans HH.out.2.size hB1.size) _
  have hX : ((((((((((((((w1.alloc (.cells (qC c) 28)).setCell ⟨w.heap.size, 0, none⟩ (.bool c)).setCell ⟨w.heap.size, 1, none⟩ (.int .i64 8)).setCell ⟨w.heap.size, 2, none⟩ (.int .i64 300)).setCell ⟨w.heap.size, 3, none⟩ (.int .i64 16)).setCell ⟨w.heap.size, 4, none⟩ (.int .i64 600)).setCell ⟨w.heap.size, 5, none⟩ (.int .i64 5)).setCell ⟨w.heap.size, 6, none⟩ (.int .i64 40)).setCell ⟨w.heap.size, 7, none⟩ (.int .i64 60)).setCell ⟨w.heap.size, 8, none⟩ (.int .i64 50)).setCell ⟨w.heap.size, 9, none⟩ (.int .i64 10)).setCell ⟨w.heap.size, 10, none⟩ (.int .i64 6)).setCell ⟨w.heap.size, 11, none⟩ (.int .i64 30)).setCell ⟨w.heap.size, 12, none⟩ (.int .i64 25)).heap[w.heap.size]? = some (.cells (qC c) 28 (0, 0)) := (row_set (cs := [.bool c, .int .i64 8, .int .i64 300, .int .i64 16, .int .i64 600, .int .i64 5, .int .i64 40, .int .i64 60, .int .i64 50, .int .i64 10, .int .i64 6, .int .i64 30, .int .i64 0]) (row_set (cs := [.bool c, .int .i64 8, .int .i64 300, .int .i64 16, .int .i64 600, .int .i64 5, .int .i64 40, .int .i64 60, .int .i64 50, .int .i64 10, .int .i64 6, .int .i64 0, .int .i64 0]) (row_set (cs := [.bool c, .int .i64 8, .int .i64 300, .int .i64 16, .int .i64 600, .int .i64 5, .int .i64 40, .int .i64 60, .int .i64 50, .int .i64 10, .int .i64 0, .int .i64 0, .int .i64 0]) (row_set (cs := [.bool c, .int .i64 8, .int .i64 300, .int .i64 16, .int .i64 600, .int .i64 5, .int .i64 40, .int .i64 60, .int .i64 50, .int .i64 0, .int .i64 0, .int .i64 0, .int .i64 0]) (row_set (cs := [.bool c, .int .i64 8, .int .i64 300, .int .i64 16, .int .i64 600, .int .i64 5, .int .i64 40, .int .i64 60, .int .i64 0, .int .i64 0, .int .i64 0, .int .i64 0, .int .i64 0]) (row_set (cs := [.bool c, .int .i64 8, .int .i64 300, .int .i64 16, .int .i64 600, .int .i64 5, .int .i64 40, .int .i64 0, .int .i64 0, .int .i64 0, .int .i64 0, .int .i64 0, .int .i64 0]) (row_set (cs := [.bool c, .int .i64 8, .int .i64 300, .int .i64 16, .int .i64 600, .int .i64 5, .int .i64 0, .int .i64 0, .int .i64 0, .int .i64 0, .int .i64 0, .int .i64 0, .int .i64 0]) (row_set (cs := [.bool c, .int .i64 8, .int .i64 300, .int .i64 16, .int .i64 600, .int .i64 0, .int .i64 0, .int .i64 0, .int .i64 0, .int .i64 0, .int .i64 0, .int .i64 0, .int .i64 0]) (row_set (cs := [.bool c, .int .i64 8, .int .i64 300, .int .i64 16, .int .i64 0, .int .i64 0, .int .i64 0, .int .i64 0, .int .i64 0, .int .i64 0, .int .i64 0, .int .i64 0, .int .i64 0]) (row_set (cs := [.bool c, .int .i64 8, .int .i64 300, .int .i64 0, .int .i64 0, .int .i64 0, .int .i64 0, .int .i64 0, .int .i64 0, .int .i64 0, .int .i64 0, .int .i64 0, .int .i64 0]) (row_set (cs := [.bool c, .int .i64 8, .int .i64 0, .int .i64 0, .int .i64 0, .int .i64 0, .int .i64 0, .int .i64 0, .int .i64 0, .int .i64 0, .int .i64 0, .int .i64 0, .int .i64 0]) (row_set (cs := [.bool c, .int .i64 0, .int .i64 0, .int .i64 0, .int .i64 0, .int .i64 0, .int .i64 0, .int .i64 0, .int .i64 0, .int .i64 0, .int .i64 0, .int .i64 0, .int .i64 0]) (row_set (cs := [.bool false, .int .i64 0, .int .i64 0, .int .i64 0, .int .i64 0, .int .i64 0, .int .i64 0, .int .i64 0, .int .i64 0, .int .i64 0, .int .i64 0, .int .i64 0, .int .i64 0]) hh1 0 (.bool c)) 1 (.int .i64 8)) 2 (.int .i64 300)) 3 (.int .i64 16)) 4 (.int .i64 600)) 5 (.int .i64 5)) 6 (.int .i64 40)) 7 (.int .i64 60)) 8 (.int .i64 50)) 9 (.int .i64 10)) 10 (.int .i64 6)) 11 (.int .i64 30)) 12 (.int .i64 25))
  have HL9 : Hid ((loadVar 28 ⟨w.heap.size, 0, none⟩).run Tryz.prog ((((((((((((((w1.alloc (.cells (qC c) 28)).setCell ⟨w.heap.size, 0, none⟩ (.bool c)).setCell ⟨w.heap.size, 1, none⟩ (.int .i64 8)).setCell ⟨w.heap.size, 2, none⟩ (.int .i64 300)).setCell ⟨w.heap.size, 3, none⟩ (.int .i64 16)).setCell ⟨w.heap.size, 4, none⟩ (.int .i64 600)).setCell ⟨w.heap.size, 5, none⟩ (.int .i64 5)).setCell ⟨w.heap.size, 6, none⟩ (.int .i64 40)).setCell ⟨w.heap.size, 7, none⟩ (.int .i64 60)).setCell ⟨w.heap.size, 8, none⟩ (.int .i64 50)).setCell ⟨w.heap.size, 9, none⟩ (.int .i64 10)).setCell ⟨w.heap.size, 10, none⟩ (.int .i64 6)).setCell ⟨w.heap.size, 11, none⟩ (.int .i64 30)).setCell ⟨w.heap.size, 12, none⟩ (.int .i64 25)) = .ok (.agg (qC c)) ((((((((((((((w1.alloc (.cells (qC c) 28)).setCell ⟨w.heap.size, 0, none⟩ (.bool c)).setCell ⟨w.heap.size, 1, none⟩ (.int .i64 8)).setCell ⟨w.heap.size, 2, none⟩ (.int .i64 300)).setCell ⟨w.heap.size, 3, none⟩ (.int .i64 16)).setCell ⟨w.heap.size, 4, none⟩ (.int .i64 600)).setCell ⟨w.heap.size, 5, none⟩ (.int .i64 5)).setCell ⟨w.heap.size, 6, none⟩ (.int .i64 40)).setCell ⟨w.heap.size, 7, none⟩ (.int .i64 60)).setCell ⟨w.heap.size, 8, none⟩ (.int .i64 50)).setCell ⟨w.heap.size, 9, none⟩ (.int .i64 10)).setCell ⟨w.heap.size, 10, none⟩ (.int .i64 6)).setCell ⟨w.heap.size, 11, none⟩ (.int .i64 30)).setCell ⟨w.heap.size, 12, none⟩ (.int .i64 25)) ∧ Below w.heap.size w ((((((((((((((w1.alloc (.cells (qC c) 28)).setCell ⟨w.heap.size, 0, none⟩ (.bool c)).setCell ⟨w.heap.size, 1, none⟩ (.int .i64 8)).setCell ⟨w.heap.size, 2, none⟩ (.int .i64 300)).setCell ⟨w.heap.size, 3, none⟩ (.int .i64 16)).setCell ⟨w.heap.size, 4, none⟩ (.int .i64 600)).setCell ⟨w.heap.size, 5, none⟩ (.int .i64 5)).setCell ⟨w.heap.size, 6, none⟩ (.int .i64 40)).setCell ⟨w.heap.size, 7, none⟩ (.int .i64 60)).setCell ⟨w.heap.size, 8, none⟩ (.int .i64 50)).setCell ⟨w.heap.size, 9, none⟩ (.int .i64 10)).setCell ⟨w.heap.size, 10, none⟩ (.int .i64 6)).setCell ⟨w.heap.size, 11, none⟩ (.int .i64 30)).setCell ⟨w.heap.size, 12, none⟩ (.int .i64 25))) := ⟨ld_q hX rfl, (((((((((((((hB2.setCell (Nat.le_refl _) (.bool c)).setCell (Nat.le_refl _) (.int .i64 8)).setCell (Nat.le_refl _) (.int .i64 300)).setCell (Nat.le_refl _) (.int .i64 16)).setCell (Nat.le_refl _) (.int .i64 600)).setCell (Nat.le_refl _) (.int .i64 5)).setCell (Nat.le_refl _) (.int .i64 40)).setCell (Nat.le_refl _) (.int .i64 60)).setCell (Nat.le_refl _) (.int .i64 50)).setCell (Nat.le_refl _) (.int .i64 10)).setCell (Nat.le_refl _) (.int .i64 6)).setCell (Nat.le_refl _) (.int .i64 30)).setCell (Nat.le_refl _) (.int .i64 25))⟩
  obtain ⟨c0, c1, c2, c3, c4, c5, c6, c7, c8, c9, c10, c11, c12⟩ : (w1.alloc (.cells (qC c) 28)).cell? ⟨w.heap.size, 0, none⟩ = some (.bool false) ∧ (w1.alloc (.cells (qC c) 28)).cell? ⟨w.heap.size, 1, none⟩ = some (.int .i64 0) ∧ (w1.alloc (.cells (qC c) 28)).cell? ⟨w.heap.size, 2, none⟩ = some (.int .i64 0) ∧ (w1.alloc (.cells (qC c) 28)).cell? ⟨w.heap.size, 3, none⟩ = some (.int .i64 0) ∧ (w1.alloc (.cells (qC c) 28)).cell? ⟨w.heap.size, 4, none⟩ = some (.int .i64 0) ∧ (w1.alloc (.cells (qC c) 28)).cell? ⟨w.heap.size, 5, none⟩ = some (.int .i64 0) ∧ (w1.alloc (.cells (qC c) 28)).cell? ⟨w.heap.size, 6, none⟩ = some (.int .i64 0) ∧ (w1.alloc (.cells (qC c) 28)).cell? ⟨w.heap.size, 7, none⟩ = some (.int .i64 0) ∧ (w1.alloc (.cells (qC c) 28)).cell? ⟨w.heap.size, 8, none⟩ = some (.int .i64 0) ∧ (w1.alloc (.cells (qC c) 28)).cell? ⟨w.heap.size, 9, none⟩ = some (.int .i64 0) ∧ (w1.alloc (.cells (qC c) 28)).cell? ⟨w.heap.size, 10, none⟩ = some (.int .i64 0) ∧ (w1.alloc (.cells (qC c) 28)).cell? ⟨w.heap.size, 11, none⟩ = some (.int .i64 0) ∧ (w1.alloc (.cells (qC c) 28)).cell? ⟨w.heap.size, 12, none⟩ = some (.int .i64 0) := by
    refine ⟨?_, ?_, ?_, ?_, ?_, ?_, ?_, ?_, ?_, ?_, ?_, ?_, ?_⟩ <;> rw [Lib.cell_of_heap hh1] <;> rfl
  have z0 := Lib.frozen_of_heap (cs := #[.bool false, .int .i64 0, .int .i64 0, .int .i64 0, .int .i64 0, .int .i64 0, .int .i64 0, .int .i64 0, .int .i64 0, .int .i64 0, .int .i64 0, .int .i64 0, .int .i64 0]) hh1 0
  have z1 := Lib.frozen_of_heap (cs := #[.bool false, .int .i64 0, .int .i64 0, .int .i64 0, .int .i64 0, .int .i64 0, .int .i64 0, .int .i64 0, .int .i64 0, .int .i64 0, .int .i64 0, .int .i64 0, .int .i64 0]) hh1 1
  have z2 := Lib.frozen_of_heap (cs := #[.bool false, .int .i64 0, .int .i64 0, .int .i64 0, .int .i64 0, .int .i64 0, .int .i64 0, .int .i64 0, .int .i64 0, .int .i64 0, .int .i64 0, .int .i64 0, .int .i64 0]) hh1 2
  have z3 := Lib.frozen_of_heap (cs := #[.bool false, .int .i64 0, .int .i64 0, .int .i64 0, .int .i64 0, .int .i64 0, .int .i64 0, .int .i64 0, .int .i64 0, .int .i64 0, .int .i64 0, .int .i64 0, .int .i64 0]) hh1 3
  have z4 := Lib.frozen_of_heap (cs := #[.bool false, .int .i64 0, .int .i64 0, .int .i64 0, .int .i64 0, .int .i64 0, .int .i64 0, .int .i64 0, .int .i64 0, .int .i64 0, .int .i64 0, .int .i64 0, .int .i64 0]) hh1 4
  have z5 := Lib.frozen_of_heap (cs := #[.bool false, .int .i64 0, .int .i64 0, .int .i64 0, .int .i64 0, .int .i64 0, .int .i64 0, .int .i64 0, .int .i64 0, .int .i64 0, .int .i64 0, .int .i64 0, .int .i64 0]) hh1 5
  have z6 := Lib.frozen_of_heap (cs := #[.bool false, .int .i64 0, .int .i64 0, .int .i64 0, .int .i64 0, .int .i64 0, .int .i64 0, .int .i64 0, .int .i64 0, .int .i64 0, .int .i64 0, .int .i64 0, .int .i64 0]) hh1 6
  have z7 := Lib.frozen_of_heap (cs := #[.bool false, .int .i64 0, .int .i64 0, .int .i64 0, .int .i64 0, .int .i64 0, .int .i64 0, .int .i64 0, .int .i64 0, .int .i64 0, .int .i64 0, .int .i64 0, .int .i64 0]) hh1 7
  have z8 := Lib.frozen_of_heap (cs := #[.bool false, .int .i64 0, .int .i64 0, .int .i64 0, .int .i64 0, .int .i64 0, .int .i64 0, .int .i64 0, .int .i64 0, .int .i64 0, .int .i64 0, .int .i64 0, .int .i64 0]) hh1 8
  have z9 := Lib.frozen_of_heap (cs := #[.bool false, .int .i64 0, .int .i64 0, .int .i64 0, .int .i64 0, .int .i64 0, .int .i64 0, .int .i64 0, .int .i64 0, .int .i64 0, .int .i64 0, .int .i64 0, .int .i64 0]) hh1 9
  have z10 := Lib.frozen_of_heap (cs := #[.bool false, .int .i64 0, .int .i64 0, .int .i64 0, .int .i64 0, .int .i64 0, .int .i64 0, .int .i64 0, .int .i64 0, .int .i64 0, .int .i64 0, .int .i64 0, .int .i64 0]) hh1 10
  have z11 := Lib.frozen_of_heap (cs := #[.bool false, .int .i64 0, .int .i64 0, .int .i64 0, .int .i64 0, .int .i64 0, .int .i64 0, .int .i64 0, .int .i64 0, .int .i64 0, .int .i64 0, .int .i64 0, .int .i64 0]) hh1 11
  have z12 := Lib.frozen_of_heap (cs := #[.bool false, .int .i64 0, .int .i64 0, .int .i64 0, .int .i64 0, .int .i64 0, .int .i64 0, .int .i64 0, .int .i64 0, .int .i64 0, .int .i64 0, .int .i64 0, .int .i64 0]) hh1 12
  have hlt := heap_lt hh1
  unfold qC at c0 z0 c1 z1 c2 z2 c3 z3 c4 z4 c5 z5 c6 z6 c7 z7 c8 z8 c9 z9 c10 z10 c11 z11 c12 z12 hlt
  clear hX hh1 hB1 hB2 HH
  go_wp2_with fail
  refine bodyPost_ret (v := .agg (qC c)) (by have h := HL9.out.1; unfold qC at h ⊢; simp [results, Tryz.results17, asAddr, h]) rfl ?_
  have h := HL9.out.2
  unfold qC at h ⊢
  exact ⟨rfl, h⟩
end Go.Proofs.YtldjglmelbkngaaGreat.Tape
