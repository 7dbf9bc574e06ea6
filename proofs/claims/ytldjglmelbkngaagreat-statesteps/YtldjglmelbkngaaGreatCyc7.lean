/- The contracts of a Cyclic's Reset and New. -/
import Derived.Test.YtldjglmelbkngaaGreatCyc6
namespace Go.Proofs.YtldjglmelbkngaaGreat.Tape
open Go.ChangeShapes Go.WideShapes Go.ChangeAt Go.RowKit
set_option linter.unusedVariables false

/-- As at first. -/
def cs0 (n1 n2 : Int) : Cs := ⟨n1, n2, 127, 0, false, false, false⟩

/-- A Cyclic that is stored whole, under a name of its own. -/
def stC (p v : Value) : Sem Unit := Instr.storeAt 127 p v
theorem stC_def (p v : Value) : Instr.storeAt 127 p v = stC p v := rfl

theorem info64 : (Tryz.prog.info? 127).map (·.size) = some 8 := by kernel_rfl

theorem st_cyc {w : World} {B : Nat} {cs ds : Array Value} (h : w.heap[B]? = some (.cells cs 127 (0, 0))) (hs : cs.size = 8) (hd : ds.size = 8) (h1 : ds.all (·.oneCell') = true) : (stC (.pointer (some ⟨B, 0, none⟩)) (.agg ds)).run Tryz.prog w = .ok () (putU w B ds) := by
  refine run_storeAt_mid (P := Tryz.prog) w B 0 127 ds (fun j hj => ?_) (by rw [info64, hd]) h1
  have h' : w.heap[B]? = some (.cells cs.toList.toArray 127 (0, 0)) := by simpa using h
  refine ⟨?_, Lib.frozen_of_heap h' _⟩
  rw [Lib.cell_of_heap h', Nat.zero_add]
  simp only [List.getElem?_toArray]
  rw [List.getElem?_eq_getElem (by simp only [Array.length_toList]; omega)]
  rfl

/-- A Cyclic's block, whatever it has but its Hold and its bounds. -/
def RK (p hb : Nat) (n1 n2 : Int) (W : World) : Prop := ∃ c : Cs, c.n1 = n1 ∧ c.n2 = n2 ∧ W.heap[p]? = some (.cells (cycC hb c) 127 (0, 0))
theorem RK.all {p hb : Nat} {n1 n2 : Int} {W : World} (h : RK p hb n1 n2 W) : (W.cell? ⟨p, 0, none⟩ = some (.pointer (some ⟨hb, 0, none⟩)) ∧ W.cell? ⟨p, 1, none⟩ = some (.int .i64 n1) ∧ W.cell? ⟨p, 2, none⟩ = some (.int .i64 n2)) ∧ (stC (.pointer (some ⟨p, 0, none⟩)) (.agg (cycC hb (cs0 n1 n2)))).run Tryz.prog W = .ok () (putU W p (cycC hb (cs0 n1 n2))) ∧ RK p hb n1 n2 (putU W p (cycC hb (cs0 n1 n2))) := by
  obtain ⟨c, rfl, rfl, hc⟩ := h
  obtain ⟨⟨d0, d1, d2, -⟩, -⟩ := cyc_cells hc
  exact ⟨⟨d0, d1, d2⟩, st_cyc hc rfl rfl (by simp [cycC, cs0, Value.oneCell']), cs0 c.n1 c.n2, rfl, rfl, putU_heap hc rfl⟩

attribute [local go_sem ↓] stC_def

set_option maxRecDepth 100000 in
set_option maxHeartbeats 1000000 in
theorem creset_any (p hb B : Nat) (T0 : Nat → Prop) (t : Cs) (s : Hs) (w : World) (h : CycIn w p hb B T0 t s) :
    Calls Tryz.prog 98 #[.pointer (some ⟨p, 0, none⟩)] w fun e w' => e = .returned (.tuple #[]) ∧ ∃ T1, CycIn w' p hb B T1 (cs0 t.n1 t.n2) ⟨s.most, s.oct, 0, [], []⟩ ∧ Foot (fun g => g = p ∨ T0 g) (fun g => g = p ∨ T1 g) w w' := by
  obtain ⟨⟨c0, -⟩, -⟩ := cyc_cells h.cells
  have hcl := clear_any hb B T0 s w h.hold
  have HIN : Hid (CycIn w p hb B T0 t s) := h
  clear h
  go_enter Tryz.func98, Tryz.ntmps98
  go_wp2_with fail
  refine hcl.mono ?_
  rintro e w1 ⟨rfl, T1, hat1, hF1⟩
  obtain ⟨hin1, hF2⟩ := HIN.out.step hat1 hF1
  have hrk : RK p hb t.n1 t.n2 w1 := ⟨t, rfl, rfl, hin1.cells⟩
  have HIN1 : Hid (CycIn w1 p hb B T1 t ⟨s.most, s.oct, 0, [], []⟩) := hin1
  have HF1 : Hid (Foot (fun g => g = p ∨ T0 g) (fun g => g = p ∨ T1 g) w w1) := hF2
  have hrd : RK p hb t.n1 t.n2 w1.drew := hrk
  obtain ⟨⟨d0, d1, d2⟩, hst, -⟩ := hrd.all
  obtain ⟨w2, EW⟩ : ∃ w2, Hid (w2 = putU w1.drew p (cycC hb (cs0 t.n1 t.n2))) := ⟨_, rfl⟩
  rw [← EW.out] at hst
  have hst2 : (stC (.pointer (some ⟨p, 0, none⟩)) (.agg #[.pointer (some ⟨hb, 0, none⟩), .int .i64 t.n1, .int .i64 t.n2, .int .u8 127, .int .i64 0, .bool false, .bool false, .bool false])).run Tryz.prog w1.drew = .ok () w2 := hst
  clear hat1 hF1 hin1 hF2 hrk hrd hst
  go_wp2_with fail
  go_region
  go_wp2
  refine bodyPost_end (results_none rfl _ _ _) rfl ?_
  have hB1 : Below w1.heap.size w1 w1.drew := (Below.refl _ _).drew
  have hin2 := HIN1.out.below hB1
  obtain ⟨hin3, hF3⟩ := hin2.set (t' := cs0 t.n1 t.n2) (putU_gb w1.drew p (cycC hb (cs0 t.n1 t.n2))) (putU_heap hin2.cells rfl) (by simp [cs0]) (by simp [cs0])
  rw [← EW.out] at hin3 hF3
  exact ⟨rfl, T1, hin3, (HF1.out.trans (Foot.of_below hB1)).trans hF3⟩

/-- A new Cyclic's zero values. -/
def csz (n1 n2 : Int) : Cs := ⟨n1, n2, 0, 0, false, false, false⟩

set_option maxRecDepth 100000 in
set_option maxHeartbeats 1000000 in
theorem cnew_any (m o n1 n2 : Int) (B : Nat) (w : World) (hm : m ≤ 1048576) (ho : o ≤ 1099511627776) (h1 : 1 ≤ n1) (h2 : 1 ≤ n2) (hB : B ≤ w.heap.size) :
    Calls Tryz.prog 66 #[.int .i64 m, .int .i64 o, .int .i64 n1, .int .i64 n2] w fun e w' => ∃ p hb T, e = .returned (.pointer (some ⟨p, 0, none⟩)) ∧ CycIn w' p hb B T (cs0 n1 n2) ⟨m, o, 0, [], []⟩ ∧ (∀ g, (g = p ∨ T g) → w.heap.size ≤ g) ∧ Below w.heap.size w w' := by
  have hnew := new_any m o B w hm ho
  go_enter Tryz.func66, Tryz.ntmps66
  go_wp2_with (go_at_call 97; refine hnew.mono ?_; rintro e w1 ⟨rfl, ⟨T, hat1, hT1⟩, hB1⟩)
  have hh1 := heap_alloc_new w1 (.cells (cycC w.heap.size (csz n1 n2)) 127)
  have hB2 := (Below.refl w1.heap.size w1).alloc (Nat.le_refl _) (.cells (cycC w.heap.size (csz n1 n2)) 127)
  have hs1 := hB1.size
  have hlt1 := (hat1.mine w.heap.size)
  have hin : CycIn (w1.alloc (.cells (cycC w.heap.size (csz n1 n2)) 127)) w1.heap.size w.heap.size B T (csz n1 n2) ⟨m, o, 0, [], []⟩ := ⟨hh1, hat1.below hB2, by omega, hB, by simp [csz], by simp [csz]⟩
  refine (creset_any _ _ _ _ _ _ _ hin).mono ?_
  rintro e w3 ⟨rfl, T1, hin3, hF3⟩
  have hB3 : Below w.heap.size w w3 := (hB1.trans (below_le hB2 hs1)).trans (hF3.below (fun g hg => by
    rcases hg with rfl | e
    · exact hs1
    · exact Nat.le_of_eq (hT1 g e).symm) (by simp; omega))
  have hT3 : ∀ g, (g = w1.heap.size ∨ T1 g) → w.heap.size ≤ g := fun g hg => by
    rcases hF3.moved g hg with (e | e) | e
    · omega
    · exact Nat.le_of_eq (hT1 g e).symm
    · simp at e; omega
  clear hin hF3 hh1 hB2 hlt1 hat1 hB1
  go_wp2
  go_ret
  exact ⟨_, _, T1, rfl, hin3, hT3, hB3⟩
end Go.Proofs.YtldjglmelbkngaaGreat.Tape
