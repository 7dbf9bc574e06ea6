/- The contracts of a Basic's Reset and New. -/
import Derived.Test.YtldjglmelbkngaaGreatBasic3
namespace Go.Proofs.YtldjglmelbkngaaGreat.Tape
open Go.ChangeShapes Go.WideShapes Go.ChangeAt Go.RowKit
set_option linter.unusedVariables false

/-- As at first. -/
def bs0 : Bs := ⟨true, true, 127, false, -1, false, false, false, false⟩

/-- A Basic that is stored whole, under a name of its own. -/
def stB (p v : Value) : Sem Unit := Instr.storeAt 129 p v
theorem stB_def (p v : Value) : Instr.storeAt 129 p v = stB p v := rfl

theorem info50 : (Tryz.prog.info? 129).map (·.size) = some 10 := by kernel_rfl

theorem st_bas {w : World} {B : Nat} {cs ds : Array Value} (h : w.heap[B]? = some (.cells cs 129 (0, 0))) (hs : cs.size = 10) (hd : ds.size = 10) (h1 : ds.all (·.oneCell') = true) : (stB (.pointer (some ⟨B, 0, none⟩)) (.agg ds)).run Tryz.prog w = .ok () (putU w B ds) := by
  refine run_storeAt_mid (P := Tryz.prog) w B 0 129 ds (fun j hj => ?_) (by rw [info50, hd]) h1
  have h' : w.heap[B]? = some (.cells cs.toList.toArray 129 (0, 0)) := by simpa using h
  refine ⟨?_, Lib.frozen_of_heap h' _⟩
  rw [Lib.cell_of_heap h', Nat.zero_add]
  simp only [List.getElem?_toArray]
  rw [List.getElem?_eq_getElem (by simp only [Array.length_toList]; omega)]
  rfl

attribute [local go_sem ↓] stB_def

set_option maxRecDepth 100000 in
set_option maxHeartbeats 1000000 in
theorem reset_any (p hb B : Nat) (T0 : Nat → Prop) (t : Bs) (s : Hs) (w : World) (h : BasIn w p hb B T0 t s) :
    Calls Tryz.prog 99 #[.pointer (some ⟨p, 0, none⟩)] w fun e w' => e = .returned (.tuple #[]) ∧ ∃ T1, BasIn w' p hb B T1 bs0 ⟨s.most, s.oct, 0, [], []⟩ ∧ Foot (fun g => g = p ∨ T0 g) (fun g => g = p ∨ T1 g) w w' := by
  obtain ⟨⟨c0, -⟩, -⟩ := bas_cells h.cells
  have hcl := clear_any hb B T0 s w h.hold
  have HIN : Hid (BasIn w p hb B T0 t s) := h
  clear h
  go_enter Tryz.func99, Tryz.ntmps99
  go_wp2_with fail
  refine hcl.mono ?_
  rintro e w1 ⟨rfl, T1, hat1, hF1⟩
  obtain ⟨hin1, hF2⟩ := HIN.out.step hat1 hF1
  have hd0 := (bas_cells hin1.cells).1.1
  have hst := st_bas (ds := basC hb bs0) hin1.cells rfl rfl (by simp [basC, bs0, Value.oneCell'])
  have HIN1 : Hid (BasIn w1 p hb B T1 t ⟨s.most, s.oct, 0, [], []⟩) := hin1
  have HF1 : Hid (Foot (fun g => g = p ∨ T0 g) (fun g => g = p ∨ T1 g) w w1) := hF2
  clear hat1 hF1 hin1 hF2
  simp only [basC, bs0] at hst
  go_wp2
  refine bodyPost_end (results_none rfl _ _ _) rfl ?_
  obtain ⟨hin2, hF2⟩ := HIN1.out.set (t' := bs0) (putU_gb w1 p (basC hb bs0)) (putU_heap HIN1.out.cells rfl) (by simp [bs0]) (by simp [bs0])
  exact ⟨rfl, T1, hin2, HF1.out.trans hF2⟩

/-- A new Basic's zero values. -/
def bsz : Bs := ⟨false, false, 0, false, 0, false, false, false, false⟩

set_option maxRecDepth 100000 in
set_option maxHeartbeats 1000000 in
theorem bnew_any (m o : Int) (B : Nat) (w : World) (hm : m ≤ 1048576) (ho : o ≤ 1099511627776) (hB : B ≤ w.heap.size) :
    Calls Tryz.prog 67 #[.int .i64 m, .int .i64 o] w fun e w' => ∃ p hb T, e = .returned (.pointer (some ⟨p, 0, none⟩)) ∧ BasIn w' p hb B T bs0 ⟨m, o, 0, [], []⟩ ∧ (∀ g, (g = p ∨ T g) → w.heap.size ≤ g) ∧ Below w.heap.size w w' := by
  have hnew := new_any m o B w hm ho
  go_enter Tryz.func67, Tryz.ntmps67
  go_wp2_with (go_at_call 97; refine hnew.mono ?_; rintro e w1 ⟨rfl, ⟨T, hat1, hT1⟩, hB1⟩)
  have hh1 := heap_alloc_new w1 (.cells (basC w.heap.size bsz) 129)
  have hB2 := (Below.refl w1.heap.size w1).alloc (Nat.le_refl _) (.cells (basC w.heap.size bsz) 129)
  have hs1 := hB1.size
  have hlt1 := (hat1.mine w.heap.size)
  have hin : BasIn (w1.alloc (.cells (basC w.heap.size bsz) 129)) w1.heap.size w.heap.size B T bsz ⟨m, o, 0, [], []⟩ := ⟨hh1, hat1.below hB2, by omega, hB, by simp [bsz], by simp [bsz]⟩
  refine (reset_any _ _ _ _ _ _ _ hin).mono ?_
  rintro e w3 ⟨rfl, T1, hin3, hF3⟩
  have hB3 : Below w.heap.size w w3 := (hB1.trans (below_le hB2 hs1)).trans (hF3.below (fun g hg => by
    rcases hg with rfl | e
    · exact hs1
    · exact Nat.le_of_eq (hT1 g e).symm) (by simp; omega))
  have hT3 : ∀ g, (g = w1.heap.size ∨ T1 g) → w.heap.size ≤ g := fun g hg => by
    rcases hF3.moved g hg with (e | e) | e
    · omega
    · exact Nat.le_of_eq (hT1 g e).symm
    · simp at e; omega
  clear hin hF3 hh1 hB2 hlt1 hat1 hB1
  go_wp2
  go_ret
  exact ⟨_, _, T1, rfl, hin3, hT3, hB3⟩
end Go.Proofs.YtldjglmelbkngaaGreat.Tape
