/- The contract of a State's tell. -/
import Derived.Test.YtldjglmelbkngaaGreatState2
import Derived.Deep.RegionHeld
import Derived.Deep.RegionHeld3
import Derived.Deep.QuietTactic
import Derived.BigQuiet
namespace Go.Proofs.YtldjglmelbkngaaGreat.Tape
open Go.ChangeShapes Go.WideShapes Go.ChangeAt Go.RowKit
set_option linter.unusedVariables false

attribute [local go_sem] m_hold c_hold

theorem td_lit (Y : World) (u : Array Value) : ∀ j y, u.toList[j]? = some y → (Y.alloc (.cells u 50)).cell? ((⟨Y.heap.size, 0, none⟩ : Addr).add j) = some y := fun j y hj => by
  have hh := heap_alloc_new Y (.cells u 50)
  have := Lib.cell_of_heap (cs := u) hh
  rw [show ((⟨Y.heap.size, 0, none⟩ : Addr).add j) = ⟨Y.heap.size, j, none⟩ by simp [Addr.add_lit], this]
  simpa using hj

set_option maxRecDepth 100000 in
set_option maxHeartbeats 2000000 in
theorem tell_any (P : Pl) (x : St) (k why : Int) (ao : Option Addr) (n cap : Nat) : SC P 1 65 #[.pointer (some ⟨P.b, 0, none⟩), .agg #[.int .u8 k, .int .u8 why, .slice ao n cap]] x (.tuple #[]) (x.tell k why (.slice ao n cap)) := by
  intro k0 w T h
  obtain ⟨hr, T0, v, rfl, hi⟩ := h
  have hB : P.B ≤ w.heap.size := Nat.le_of_lt (Nat.lt_of_le_of_lt hi.low.1 (heap_lt hi.cells))
  obtain ⟨W, hW⟩ : ∃ W, W = w.alloc (.cells #[.int .u8 k, .int .u8 why, .slice ao n cap] 50) := ⟨_, rfl⟩
  have hBW : Below w.heap.size w W := by rw [hW]; exact (Below.refl _ _).alloc (Nat.le_refl _) _
  have hh : W.heap[w.heap.size]? = some (.cells #[.int .u8 k, .int .u8 why, .slice ao n cap] 50 (0, 0)) := by rw [hW]; exact heap_alloc_new w _
  have HR : Hid (Room k0 (x.tell k why (.slice ao n cap))) := hr.tell _ _ _
  have hl : x.told.length ≤ 2000000 := by have := hr.told; omega
  have hiW : StIn ((W.alloc (.cells #[.int .u8 k, .int .u8 why, .slice ao n cap] 50)).drew) P T0 v x := hi.keep ((hBW.alloc (by simpa using hBW.size) _).drew)
  obtain ⟨g, cap1, w1, hrun, hr1, hg1, hm1⟩ := trow_run hiW.row ⟨W.heap.size, 0, none⟩ #[.int .u8 k, .int .u8 why, .slice ao n cap] 1 (fun j y hj => td_lit W _ j y hj) rfl (by simp [Value.oneCell']) hl
  have hm1' : ∀ y, (Value.slice (some ⟨g, 0, none⟩) (x.told.length + 1) cap1).ownBlock = some y → v.ownBlock = some y ∨ ((W.alloc (.cells #[.int .u8 k, .int .u8 why, .slice ao n cap] 50)).drew).heap.size ≤ y := fun y hy => by
    have hy' : g = y := by simpa [Value.ownBlock] using hy
    subst hy'
    exact hm1
  obtain ⟨j1, j2⟩ := hiW.tell hr1 hg1 hm1' (Nat.le_trans hB (((hBW.alloc (by simpa using hBW.size) _).drew).size))
  have HJ : Hid (StIn (w1.setCell ⟨P.b, 18, none⟩ (.slice (some ⟨g, 0, none⟩) (x.told.length + 1) cap1)) P T0 (.slice (some ⟨g, 0, none⟩) (x.told.length + 1) cap1) (x.tell k why (.slice ao n cap)) ∧ Foot (setT P T0 v) (setT P T0 (.slice (some ⟨g, 0, none⟩) (x.told.length + 1) cap1)) w (w1.setCell ⟨P.b, 18, none⟩ (.slice (some ⟨g, 0, none⟩) (x.told.length + 1) cap1))) := ⟨j1, (Foot.of_below ((hBW.alloc (by simpa using hBW.size) _).drew)).trans j2⟩
  obtain ⟨⟨-, -, -, -, -, -, -, -, -, -, -, -, c18, -⟩, -⟩ := (hi.keep hBW).all
  obtain ⟨u0, u1, u2⟩ : W.cell? ⟨w.heap.size, 0, none⟩ = some (.int .u8 k) ∧ W.cell? ⟨w.heap.size, 1, none⟩ = some (.int .u8 why) ∧ W.cell? ⟨w.heap.size, 2, none⟩ = some (.slice ao n cap) := by
    refine ⟨?_, ?_, ?_⟩ <;> simp [World.cell?, hh]
  have hap : w1.heap[P.b]? = ((W.alloc (.cells #[.int .u8 k, .int .u8 why, .slice ao n cap] 50)).drew).heap[P.b]? := hg1.block _ (heap_lt hiW.cells) (fun e => (hiW.apart.v _ e.symm).1 rfl)
  have a18 : (W.alloc (.cells #[.int .u8 k, .int .u8 why, .slice ao n cap] 50)).cell? ⟨P.b, 18, none⟩ = some v := hiW.all.1.2.2.2.2.2.2.2.2.2.2.2.2.1
  have k18 := (World.cell?_of_block (a := ⟨P.b, 18, none⟩) hap).trans hiW.all.1.2.2.2.2.2.2.2.2.2.2.2.2.1
  have f18 := (World.frozen?_of_block (a := ⟨P.b, 18, none⟩) hap).trans (hiW.all.2 18)
  have hWl : w.heap.size < W.heap.size := heap_lt hh
  have hbx : w1.heap[w.heap.size]? = W.heap[w.heap.size]? := (hg1.block w.heap.size (by simp; omega) (fun e => by have := hi.row.lt _ e.symm; omega)).trans (Below.heap_alloc _ _ _ hWl)
  have k0' := (World.cell?_of_block (a := ⟨w.heap.size, 0, none⟩) hbx).trans u0
  have k1' := (World.cell?_of_block (a := ⟨w.heap.size, 1, none⟩) hbx).trans u1
  have k2' := (World.cell?_of_block (a := ⟨w.heap.size, 2, none⟩) hbx).trans u2
  clear hr hi hiW hh hB hap hbx hWl hr1 hg1 hm1 hm1' j1 j2 hl hBW
  go_enter Tryz.func65, Tryz.ntmps65
  go_upto_region 1 with fail
  rw [← hW]
  clear hW
  go_region_law (refine step_append_td (by rfl) _ _ (by rfl) (by rfl) _ _ (by rfl) (by rfl) _ _ hrun ?_)
  all_goals
    go_wp2
    refine bodyPost_end (results_none rfl _ _ _) rfl ?_
    exact ⟨rfl, _, ⟨HR.out, T0, _, rfl, HJ.out.1⟩, HJ.out.2⟩
end Go.Proofs.YtldjglmelbkngaaGreat.Tape
