/- The contract of a Cyclic's again. -/
import Derived.Test.YtldjglmelbkngaaGreatCyc2
namespace Go.Proofs.YtldjglmelbkngaaGreat.Tape
open Go.ChangeShapes Go.WideShapes Go.ChangeAt Go.RowKit
set_option linter.unusedVariables false

attribute [local go_sem ↓] ldU_def stU_def

set_option maxRecDepth 100000 in
set_option maxHeartbeats 2000000 in
theorem again_in (p hb B : Nat) (T0 : Nat → Prop) (t : Cs) (s : Hs) (k : Nat) (w : World) (h : CycIn w p hb B T0 t s) (hk : t.pl = k) (hlt : k < s.sent.length) (hBw : B ≤ w.heap.size) :
    Calls Tryz.prog 143 #[.pointer (some ⟨p, 0, none⟩)] w fun e w' => ∃ v, e = .returned (.agg (uC t.last ((s.first + k) % 128) true true 2 v)) ∧ HMsg w' w.heap.size v s.sent[k] ∧ CycIn w' p hb B T0 { t with pl := k + 1 } s ∧ Foot (fun g => g = p ∨ T0 g) (fun g => g = p ∨ T0 g) w w' := by
  obtain ⟨W, hW, hB, hh⟩ := new_unit w
  have hs := hB.size
  have h1 := h.below hB
  have hwin := h.hold.fine.win
  have hmsg := h.hold.each.1 _ (List.getElem_mem hlt)
  have hse := fun q => sent_any hb B T0 s (W.drewN q) (h1.hold.drewN q)
  have hBD : ∀ q, Below W.heap.size W (W.drewN q).drew := fun q => (below_drewN (Below.refl _ _) q).drew
  have hat := fun q => at_in hb B T0 s k (W.drewN q).drew (h1.hold.below (hBD q)) hlt
  have hp1 := heap_lt h1.cells
  have HR : Hid (∀ r, r = w.heap.size → (∀ g, (g = p ∨ T0 g) → g ≠ r)) := fun r hr g hg e => by
    have := (h.at_.lt g hg).2
    omega
  have HK : Hid (∀ w3 : World, Below W.heap.size W w3 → CycIn w3 p hb B T0 t s) := fun w3 hw3 => h1.below hw3
  have HS : Hid (∀ w3 : World, Below W.heap.size W w3 → w3.cell? ⟨p, 0, none⟩ = some (.pointer (some ⟨hb, 0, none⟩)) ∧ w3.cell? ⟨p, 4, none⟩ = some (.int .i64 k)) := fun w3 hw3 => by
    obtain ⟨⟨c0, -, -, -, c4, -⟩, -⟩ := cyc_cells (h1.below hw3).cells
    rw [hk] at c4
    exact ⟨c0, c4⟩
  have HT : Hid (t.pl = k) := hk
  have HH : Hid (W.heap[w.heap.size]? = some (.cells zeroU 32 (0, 0))) := hh
  have HB : Hid (Below w.heap.size w W) := hB
  have HD : Hid (∀ q, Below W.heap.size W (W.drewN q).drew) := hBD
  obtain ⟨c0, c4⟩ := HS.out W (Below.refl _ _)
  have d1 : decide ((k : Int) ≥ (s.sent.length : Int)) = false := decide_eq_false (by omega)
  have hk127 : k < 127 := by omega
  generalize s.sent[k] = x at *
  generalize s.sent.length = n at *
  clear h h1 hk hh hB hBD
  go_enter Tryz.func143, Tryz.ntmps143
  go_upto_region 1 with fail
  rw [← hW]
  clear hW
  go_wp2_with fail
  go_quiet ((go_at_call 29; exact Calls.quiet_of_same (hse _)))
  go_wp2_with fail
  have hBQ := HD.out nq
  have hB1 : Below W.heap.size W (W.drewN nq) := below_drewN (Below.refl _ _) nq
  have hatq := hat nq
  generalize W.drewN nq = W1 at *
  clear hat hse c0 c4
  go_region_held (fun Y => Y.cell? ⟨p, 0, none⟩ = some (.pointer (some ⟨hb, 0, none⟩)) ∧ Y.cell? ⟨p, 4, none⟩ = some (.int .i64 k)) ((refine HS.out _ ?_; assumption))
    (first
    | (go_at_call 151; refine hatq.mono ?_; rintro e w3 ⟨v, rfl, hown3, hB3⟩; obtain ⟨g3, c3', rfl⟩ := owns_some hown3 (by omega); have hB4 := hBQ.trans (below_le hB3 hBQ.size)))
  have hs3 := hB4.size
  have hin3 := HK.out _ hB4
  obtain ⟨⟨c0, -, -, -, c4, -⟩, hz⟩ := cyc_cells hin3.cells
  have z4 := hz 4
  rw [HT.out] at c4
  have hh3 := (hB4.block _ (heap_lt HH.out)).trans HH.out
  have HM3 : Hid (HMsg w3 w.heap.size (.slice (some ⟨g3, 0, none⟩) x.length c3') x) := ⟨owns_lower hown3 (by have := hBQ.size; omega), hmsg⟩
  obtain ⟨hin4, hF4⟩ := hin3.set (t' := { t with pl := k + 1 }) (gb_set (k := 4) (.int .i64 ((k + 1 : Nat) : Int))) (row_set (cyc_row hin3.cells) 4 _) hin3.last (by simp only; omega)
  have hh4 := (hF4.block _ (heap_lt hh3) (fun e => HR.out _ rfl _ e rfl)).trans hh3
  have hm4 := HM3.out.foot hF4 hin3.at_.not5
  have hF : Foot (fun g => g = p ∨ T0 g) (fun g => g = p ∨ T0 g) w _ := (Foot.of_below (HB.out.trans (below_le hB4 hs))).trans hF4
  rw [show ((k + 1 : Nat) : Int) = (k : Int) + 1 by omega] at hin4 hh4 hm4 hF
  obtain ⟨W4, hW4⟩ : ∃ W4, W4 = w3.setCell ⟨p, 4, none⟩ (.int .i64 ((k : Int) + 1)) := ⟨_, rfl⟩
  rw [← hW4] at hin4 hh4 hm4 hF
  have hun := cunit_any p hb B T0 _ s 2 ((s.first + k) % 128) (some ⟨g3, 0, none⟩) x.length c3' W4 hin4
  have HA : Hid (CycIn W4 p hb B T0 { t with pl := k + 1 } s ∧ HMsg W4 w.heap.size (.slice (some ⟨g3, 0, none⟩) x.length c3') x ∧ W4.heap[w.heap.size]? = some (.cells zeroU 32 (0, 0)) ∧ Foot (fun g => g = p ∨ T0 g) (fun g => g = p ∨ T0 g) w W4) := ⟨hin4, hm4, hh4, hF⟩
  clear hin3 hin4 hF4 hh4 hm4 hF hz hh3 hown3 hB3 hB4 hBQ hB1 hatq
  go_wp2_with fail
  rw [← hW4]
  refine hun.mono ?_
  rintro e w5 ⟨rfl, hB5⟩
  have hh5 := (hB5.block _ (heap_lt HA.out.2.2.1)).trans HA.out.2.2.1
  have hst := st_unit (ds := uC t.last ((s.first + k) % 128) true true 2 (.slice (some ⟨g3, 0, none⟩) x.length c3')) hh5 rfl rfl (uC_one _ _ _ _ _ _ _ _)
  have hld := (ld_unit (putU_heap (ds := uC t.last ((s.first + k) % 128) true true 2 (.slice (some ⟨g3, 0, none⟩) x.length c3')) hh5 rfl) rfl).2
  go_wp2
  refine bodyPost_ret (v := .agg (uC t.last ((s.first + k) % 128) true true 2 (.slice (some ⟨g3, 0, none⟩) x.length c3'))) (by simp [results, Tryz.results143, asAddr, hld]) rfl ?_
  have hgb := putU_gb w5 w.heap.size (uC t.last ((s.first + k) % 128) true true 2 (.slice (some ⟨g3, 0, none⟩) x.length c3'))
  exact ⟨_, rfl, (HA.out.2.1.below hB5).off hgb hh5 (by decide), (HA.out.1.below hB5).off hgb hh5, (HA.out.2.2.2.trans (Foot.of_below hB5)).new hgb (Nat.le_refl _)⟩

set_option maxRecDepth 100000 in
set_option maxHeartbeats 2000000 in
theorem again_wrap (p hb B : Nat) (T0 : Nat → Prop) (t : Cs) (s : Hs) (k : Nat) (w : World) (h : CycIn w p hb B T0 t s) (hk : t.pl = k) (hge : s.sent.length ≤ k) (hpos : 0 < s.sent.length) (hBw : B ≤ w.heap.size) :
    Calls Tryz.prog 143 #[.pointer (some ⟨p, 0, none⟩)] w fun e w' => ∃ v, e = .returned (.agg (uC t.last (s.first % 128) true true 2 v)) ∧ HMsg w' w.heap.size v s.sent[0] ∧ CycIn w' p hb B T0 { t with pl := 1, force := t.much s } s ∧ Foot (fun g => g = p ∨ T0 g) (fun g => g = p ∨ T0 g) w w' := by
  obtain ⟨W, hW, hB, hh⟩ := new_unit w
  have hs := hB.size
  have h1 := h.below hB
  have hmsg := h.hold.each.1 _ (List.getElem_mem hpos)
  have hse := fun q => sent_any hb B T0 s (W.drewN q) (h1.hold.drewN q)
  have HR : Hid (∀ r, r = w.heap.size → (∀ g, (g = p ∨ T0 g) → g ≠ r)) := fun r hr g hg e => by
    have := (h.at_.lt g hg).2
    omega
  have HK : Hid (∀ w3 : World, Below W.heap.size W w3 → CycIn w3 p hb B T0 t s) := fun w3 hw3 => h1.below hw3
  obtain ⟨⟨c0, -, -, -, c4, -⟩, hz⟩ := cyc_cells h1.cells
  have z4 := hz 4
  have z5 := hz 5
  rw [hk] at c4
  have HT : Hid (t.pl = k) := hk
  have HH : Hid (W.heap[w.heap.size]? = some (.cells zeroU 32 (0, 0))) := hh
  have HB : Hid (Below w.heap.size w W) := hB
  have d1 : decide ((k : Int) ≥ (s.sent.length : Int)) = true := decide_eq_true (by omega)
  have hk128 : k ≤ 128 := by have := h.pl; omega
  have hat : ∀ Y, HoldAt Y hb B T0 s → Calls Tryz.prog 151 #[.pointer (some ⟨hb, 0, none⟩), .int .i64 0] Y fun e w' => ∃ v, e = .returned (.tuple #[.int .u8 (s.first % 128), v, .int .i64 0]) ∧ w'.ownsRow Y.heap.size 5 1 v s.sent[0].length (s.sent[0].map (.int .u8)) ∧ Below Y.heap.size Y w' := fun Y hY => by
    have := at_in hb B T0 s 0 Y hY hpos
    simpa using this
  generalize s.sent[0] = x at *
  have HAT : Hid _ := hat
  generalize s.sent.length = n at *
  clear h h1 hk hh hB hz hpos hat
  obtain ⟨F, hF⟩ : ∃ F, F = t.much s := ⟨_, rfl⟩
  rw [← hF]
  have HFF : Hid (F = t.much s) := hF
  clear hF
  go_enter Tryz.func143, Tryz.ntmps143
  go_upto_region 1 with fail
  rw [← hW]
  clear hW
  go_wp2_with fail
  go_quiet ((go_at_call 29; exact Calls.quiet_of_same (hse _)))
  go_wp2_with fail
  refine (much_any p hb B T0 t s _ (HK.out _ (below_drewN (Below.refl _ _) nq))).mono ?_
  rintro e w1 ⟨rfl, q, hq⟩
  rw [← HFF.out]
  have hBq : Below W.heap.size W w1 := by rw [hq]; exact below_drewN (below_drewN (Below.refl _ _) nq) q
  clear hq
  have hin1 := HK.out _ hBq
  have hh1 := (hBq.block _ (heap_lt HH.out)).trans HH.out
  obtain ⟨hin2, hF2⟩ := hin1.set (t' := { t with pl := 0, force := F }) ((gb_set (k := 4) (.int .i64 0)).trans (gb_set (k := 5) (.bool F))) (row_set (row_set (cyc_row hin1.cells) 4 (.int .i64 0)) 5 (.bool F)) hin1.last (by simp)
  have hh2 := (hF2.block _ (heap_lt hh1) (fun e => HR.out _ rfl _ e rfl)).trans hh1
  have hFt : Foot (fun g => g = p ∨ T0 g) (fun g => g = p ∨ T0 g) w _ := (Foot.of_below (HB.out.trans (below_le hBq hs))).trans hF2
  obtain ⟨⟨e0, -, -, -, e4, e5, -⟩, hz1⟩ := cyc_cells hin1.cells
  have y4 := hz1 4
  have y5 := hz1 5
  rw [HT.out] at e4
  obtain ⟨W2, hW2⟩ : ∃ W2, W2 = (w1.setCell ⟨p, 4, none⟩ (.int .i64 0)).setCell ⟨p, 5, none⟩ (.bool F) := ⟨_, rfl⟩
  rw [← hW2] at hin2 hh2 hFt
  clear hin1 hh1 hF2 hz1 hBq c0 c4 z4 z5 hse
  go_upto_region 3 with fail
  rw [← hW2]
  clear hW2 e0 e4 e5 y4 y5
  have HK2 : Hid (∀ w3 : World, Below W2.heap.size W2 w3 → CycIn w3 p hb B T0 { t with pl := 0, force := F } s) := fun w3 hw3 => hin2.below hw3
  have HH2 : Hid (W2.heap[w.heap.size]? = some (.cells zeroU 32 (0, 0))) := hh2
  have HF2 : Hid (Foot (fun g => g = p ∨ T0 g) (fun g => g = p ∨ T0 g) w W2) := hFt
  have HS : Hid (∀ w3 : World, Below W2.heap.size W2 w3 → w3.cell? ⟨p, 0, none⟩ = some (.pointer (some ⟨hb, 0, none⟩)) ∧ w3.cell? ⟨p, 4, none⟩ = some (.int .i64 0)) := fun w3 hw3 => by
    obtain ⟨⟨c0, -, -, -, c4, -⟩, -⟩ := cyc_cells (HK2.out w3 hw3).cells
    exact ⟨c0, c4⟩
  have hBQ : Below W2.heap.size W2 W2.drew := (Below.refl _ _).drew
  have hatq := HAT.out _ (HK2.out _ hBQ).hold
  have hs2 : w.heap.size ≤ W2.heap.size := hFt.size
  clear hin2 hh2 hFt HAT
  go_wp2_with fail
  go_region_held (fun Y => Y.cell? ⟨p, 0, none⟩ = some (.pointer (some ⟨hb, 0, none⟩)) ∧ Y.cell? ⟨p, 4, none⟩ = some (.int .i64 0)) ((refine HS.out _ ?_; assumption))
    (first
    | (go_at_call 151; refine hatq.mono ?_; rintro e w3 ⟨v, rfl, hown3, hB3⟩; obtain ⟨g3, c3', rfl⟩ := owns_some hown3 (by omega); have hB4 := hBQ.trans (below_le hB3 hBQ.size)))
  have hin3 := HK2.out _ hB4
  obtain ⟨⟨c0, -, -, -, c4, -⟩, hz⟩ := cyc_cells hin3.cells
  have z4 := hz 4
  have hh3 := (hB4.block _ (heap_lt HH2.out)).trans HH2.out
  have HM3 : Hid (HMsg w3 w.heap.size (.slice (some ⟨g3, 0, none⟩) x.length c3') x) := ⟨owns_lower hown3 (by have := hBQ.size; omega), hmsg⟩
  obtain ⟨hin4, hF4⟩ := hin3.set (t' := { t with pl := 1, force := F }) (gb_set (k := 4) (.int .i64 1)) (row_set (cyc_row hin3.cells) 4 _) hin3.last (by simp)
  have hh4 := (hF4.block _ (heap_lt hh3) (fun e => HR.out _ rfl _ e rfl)).trans hh3
  have hm4 := HM3.out.foot hF4 hin3.at_.not5
  have hF : Foot (fun g => g = p ∨ T0 g) (fun g => g = p ∨ T0 g) w _ := (HF2.out.trans (Foot.of_below hB4)).trans hF4
  obtain ⟨W4, hW4⟩ : ∃ W4, W4 = w3.setCell ⟨p, 4, none⟩ (.int .i64 1) := ⟨_, rfl⟩
  rw [← hW4] at hin4 hh4 hm4 hF
  have hun := cunit_any p hb B T0 _ s 2 (s.first % 128) (some ⟨g3, 0, none⟩) x.length c3' W4 hin4
  have HA : Hid (CycIn W4 p hb B T0 { t with pl := 1, force := F } s ∧ HMsg W4 w.heap.size (.slice (some ⟨g3, 0, none⟩) x.length c3') x ∧ W4.heap[w.heap.size]? = some (.cells zeroU 32 (0, 0)) ∧ Foot (fun g => g = p ∨ T0 g) (fun g => g = p ∨ T0 g) w W4) := ⟨hin4, hm4, hh4, hF⟩
  clear hin3 hin4 hF4 hh4 hm4 hF hz hh3 hown3 hB3 hB4 hBQ hatq
  go_wp2_with fail
  rw [← hW4]
  refine hun.mono ?_
  rintro e w5 ⟨rfl, hB5⟩
  have hh5 := (hB5.block _ (heap_lt HA.out.2.2.1)).trans HA.out.2.2.1
  have hst := st_unit (ds := uC t.last (s.first % 128) true true 2 (.slice (some ⟨g3, 0, none⟩) x.length c3')) hh5 rfl rfl (uC_one _ _ _ _ _ _ _ _)
  have hld := (ld_unit (putU_heap (ds := uC t.last (s.first % 128) true true 2 (.slice (some ⟨g3, 0, none⟩) x.length c3')) hh5 rfl) rfl).2
  go_wp2
  refine bodyPost_ret (v := .agg (uC t.last (s.first % 128) true true 2 (.slice (some ⟨g3, 0, none⟩) x.length c3'))) (by simp [results, Tryz.results143, asAddr, hld]) rfl ?_
  have hgb := putU_gb w5 w.heap.size (uC t.last (s.first % 128) true true 2 (.slice (some ⟨g3, 0, none⟩) x.length c3'))
  exact ⟨_, rfl, (HA.out.2.1.below hB5).off hgb hh5 (by decide), (HA.out.1.below hB5).off hgb hh5, (HA.out.2.2.2.trans (Foot.of_below hB5)).new hgb (Nat.le_refl _)⟩

set_option maxRecDepth 100000 in
set_option maxHeartbeats 2000000 in
theorem again_fill (p hb B : Nat) (T0 : Nat → Prop) (t : Cs) (s : Hs) (w : World) (h : CycIn w p hb B T0 t s) (h0 : s.sent.length = 0) (hBw : B ≤ w.heap.size) :
    Calls Tryz.prog 143 #[.pointer (some ⟨p, 0, none⟩)] w fun e w' => e = .returned (.agg (uC t.last s.last true true 0 (.slice none 0 0))) ∧ CycIn w' p hb B T0 { t with pl := 0, force := t.much s } s ∧ Foot (fun g => g = p ∨ T0 g) (fun g => g = p ∨ T0 g) w w' := by
  obtain ⟨W, hW, hB, hh⟩ := new_unit w
  have hs := hB.size
  have h1 := h.below hB
  have hse := fun q => sent_any hb B T0 s (W.drewN q) (h1.hold.drewN q)
  have HR : Hid (∀ r, r = w.heap.size → (∀ g, (g = p ∨ T0 g) → g ≠ r)) := fun r hr g hg e => by
    have := (h.at_.lt g hg).2
    omega
  have HK : Hid (∀ w3 : World, Below W.heap.size W w3 → CycIn w3 p hb B T0 t s) := fun w3 hw3 => h1.below hw3
  obtain ⟨⟨c0, -, -, -, c4, -⟩, hz⟩ := cyc_cells h1.cells
  have HH : Hid (W.heap[w.heap.size]? = some (.cells zeroU 32 (0, 0))) := hh
  have HB : Hid (Below w.heap.size w W) := hB
  rw [h0] at hse
  obtain ⟨k, hk⟩ : ∃ k, k = t.pl := ⟨_, rfl⟩
  rw [← hk] at c4
  have HT : Hid (k = t.pl) := hk
  have hk128 : k ≤ 128 := by have := h.pl; omega
  have d1 : decide ((k : Int) ≥ 0) = true := decide_eq_true (by omega)
  have HAT : Hid (∀ q Y, HoldAt Y hb B T0 s → Calls Tryz.prog 151 #[.pointer (some ⟨hb, 0, none⟩), .int .i64 0] (Y.drewN q) fun e w' => e = .returned (.tuple #[.int .u8 0, .slice none 0 0, .int .i64 2]) ∧ w' = Y.drewN q) := fun q Y hY => at_out hb B T0 s 0 (Y.drewN q) (hY.drewN q) (.inr (by omega))
  clear h h1 hk hh hB hz
  obtain ⟨F, hF⟩ : ∃ F, F = t.much s := ⟨_, rfl⟩
  rw [← hF]
  have HFF : Hid (F = t.much s) := hF
  clear hF h0
  go_enter Tryz.func143, Tryz.ntmps143
  go_upto_region 1 with fail
  rw [← hW]
  clear hW
  go_wp2_with fail
  go_quiet ((go_at_call 29; exact Calls.quiet_of_same (hse _)))
  go_wp2_with fail
  refine (much_any p hb B T0 t s _ (HK.out _ (below_drewN (Below.refl _ _) nq))).mono ?_
  rintro e w1 ⟨rfl, q, hq⟩
  rw [← HFF.out]
  have hBq : Below W.heap.size W w1 := by rw [hq]; exact below_drewN (below_drewN (Below.refl _ _) nq) q
  clear hq
  have hin1 := HK.out _ hBq
  have hh1 := (hBq.block _ (heap_lt HH.out)).trans HH.out
  obtain ⟨hin2, hF2⟩ := hin1.set (t' := { t with pl := 0, force := F }) ((gb_set (k := 4) (.int .i64 0)).trans (gb_set (k := 5) (.bool F))) (row_set (row_set (cyc_row hin1.cells) 4 (.int .i64 0)) 5 (.bool F)) hin1.last (by simp)
  have hh2 := (hF2.block _ (heap_lt hh1) (fun e => HR.out _ rfl _ e rfl)).trans hh1
  have hFt : Foot (fun g => g = p ∨ T0 g) (fun g => g = p ∨ T0 g) w _ := (Foot.of_below (HB.out.trans (below_le hBq hs))).trans hF2
  obtain ⟨⟨e0, -, -, -, e4, e5, -⟩, hz1⟩ := cyc_cells hin1.cells
  have y4 := hz1 4
  have y5 := hz1 5
  obtain ⟨W2, hW2⟩ : ∃ W2, W2 = (w1.setCell ⟨p, 4, none⟩ (.int .i64 0)).setCell ⟨p, 5, none⟩ (.bool F) := ⟨_, rfl⟩
  rw [← hW2] at hin2 hh2 hFt
  clear hin1 hh1 hF2 hz1 hBq c0 c4 hse
  go_upto_region 3 with fail
  rw [← hW2]
  clear hW2 e0 e4 e5 y4 y5
  obtain ⟨⟨c0, -, -, -, c4, -⟩, -⟩ := cyc_cells hin2.cells
  have hat := fun q => HAT.out q W2 hin2.hold
  have HIN2 : Hid (CycIn W2 p hb B T0 { t with pl := 0, force := F } s) := hin2
  have HH2 : Hid (W2.heap[w.heap.size]? = some (.cells zeroU 32 (0, 0))) := hh2
  have HF2 : Hid (Foot (fun g => g = p ∨ T0 g) (fun g => g = p ∨ T0 g) w W2) := hFt
  clear hin2 hh2 hFt HAT
  go_wp2_with fail
  go_quiet ((go_at_call 151; exact Calls.quiet_of_same (hat _)))
  go_wp2_with fail
  have hB3 : Below W2.heap.size W2 (W2.drewN nq) := below_drewN (Below.refl _ _) nq
  have hin3 := HIN2.out.below hB3
  have hh3 := (hB3.block _ (heap_lt HH2.out)).trans HH2.out
  refine (cfill_any p hb B T0 _ s _ hin3).mono ?_
  rintro e w5 ⟨rfl, hB5⟩
  have hh5 := (hB5.block _ (heap_lt hh3)).trans hh3
  have hin5 := hin3.below hB5
  have hst := st_unit (ds := uC t.last s.last true true 0 (.slice none 0 0)) hh5 rfl rfl (uC_one _ _ _ _ _ _ _ _)
  have hld := (ld_unit (putU_heap (ds := uC t.last s.last true true 0 (.slice none 0 0)) hh5 rfl) rfl).2
  have HIN5 : Hid (CycIn w5 p hb B T0 { t with pl := 0, force := F } s ∧ Foot (fun g => g = p ∨ T0 g) (fun g => g = p ∨ T0 g) w w5) := ⟨hin5, (HF2.out.trans (Foot.of_below hB3)).trans (Foot.of_below hB5)⟩
  clear hin3 hh3 hB3 hin5 hB5 hat c0 c4
  simp only
  go_wp2
  refine bodyPost_ret (v := .agg (uC t.last s.last true true 0 (.slice none 0 0))) (by simp [results, Tryz.results143, asAddr, hld]) rfl ?_
  have hgb := putU_gb w5 w.heap.size (uC t.last s.last true true 0 (.slice none 0 0))
  exact ⟨rfl, HIN5.out.1.off hgb hh5, HIN5.out.2.new hgb (Nat.le_refl _)⟩
end Go.Proofs.YtldjglmelbkngaaGreat.Tape
