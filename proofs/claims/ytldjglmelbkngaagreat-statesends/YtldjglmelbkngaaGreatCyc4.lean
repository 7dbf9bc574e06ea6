/- The contract of a Cyclic's Next. -/
import Derived.Test.YtldjglmelbkngaaGreatCyc3
namespace Go.Proofs.YtldjglmelbkngaaGreat.Tape
open Go.ChangeShapes Go.WideShapes Go.ChangeAt Go.RowKit
set_option linter.unusedVariables false

/-- The message of a unit that goes: none, or in new memory. -/
def InfoAt (w : World) (B : Nat) (v : Value) : Option (List Int) → Prop
  | none => v = .slice none 0 0
  | some x => HMsg w B v x
/-- .. and its kind. -/
def kd : Option (List Int) → Int
  | none => 0
  | some _ => 2

theorem InfoAt.mono {w : World} {B B' : Nat} {v : Value} {i : Option (List Int)} (h : InfoAt w B v i) (hB : B' ≤ B) : InfoAt w B' v i := by
  cases i with
  | none => exact h
  | some x => exact ⟨owns_lower h.1 hB, h.2⟩
theorem InfoAt.keep {w w' : World} {B : Nat} {v : Value} {i : Option (List Int)} (h : InfoAt w B v i) (hk : ∀ (g : Nat) cur, w.heap[g]? = some (.cells cur 5 (0, 0)) → w'.heap[g]? = w.heap[g]?) : InfoAt w' B v i := by
  cases i with
  | none => exact h
  | some x => exact HMsg.at_ h fun g cur _ hg => hk g cur hg
theorem InfoAt.form {w : World} {B : Nat} {v : Value} {i : Option (List Int)} (h : InfoAt w B v i) : ∃ ao n cap, v = .slice ao n cap := by
  cases i with
  | none => exact ⟨_, _, _, h⟩
  | some x =>
    obtain ⟨m, cap, cur, e, -⟩ := HMsg.form h
    exact ⟨_, _, _, e⟩

/-- What is sent again: what it leaves, the number, the message. -/
def Cs.again (t : Cs) (s : Hs) : Cs × Int × Option (List Int) :=
  if t.pl < s.sent.length then ({ t with pl := t.pl + 1 }, (s.first + t.pl) % 128, s.sent[t.pl]?)
  else if 0 < s.sent.length then ({ t with pl := 1, force := t.much s }, s.first % 128, s.sent[0]?)
  else ({ t with pl := 0, force := t.much s }, s.last, none)

theorem again_any (p hb B : Nat) (T0 : Nat → Prop) (t : Cs) (s : Hs) (w : World) (h : CycIn w p hb B T0 t s) (hBw : B ≤ w.heap.size) :
    Calls Tryz.prog 143 #[.pointer (some ⟨p, 0, none⟩)] w fun e w' => ∃ v, e = .returned (.agg (uC t.last (t.again s).2.1 true true (kd (t.again s).2.2) v)) ∧ InfoAt w' w.heap.size v (t.again s).2.2 ∧ CycIn w' p hb B T0 (t.again s).1 s ∧ Foot (fun g => g = p ∨ T0 g) (fun g => g = p ∨ T0 g) w w' := by
  unfold Cs.again
  by_cases h1 : t.pl < s.sent.length
  · rw [if_pos h1, List.getElem?_eq_getElem h1]
    exact again_in p hb B T0 t s t.pl w h rfl h1 hBw
  · rw [if_neg h1]
    by_cases h2 : 0 < s.sent.length
    · rw [if_pos h2, List.getElem?_eq_getElem h2]
      exact again_wrap p hb B T0 t s t.pl w h rfl (by omega) h2 hBw
    · rw [if_neg h2]
      refine (again_fill p hb B T0 t s w h (by omega) hBw).mono ?_
      rintro e w' ⟨h1, h2, h3⟩
      exact ⟨_, h1, rfl, h2, h3⟩

attribute [local go_sem ↓] ldU_def stU_def

set_option maxRecDepth 100000 in
set_option maxHeartbeats 2000000 in
theorem next_force (p hb B : Nat) (T0 : Nat → Prop) (t t1 : Cs) (s : Hs) (w : World) (h : CycIn w p hb B T0 t s) (ht1 : t1 = { t with force := true }) (hf : t.force = true ∨ t.much s = true) (hBw : B ≤ w.heap.size) :
    Calls Tryz.prog 133 #[.pointer (some ⟨p, 0, none⟩)] w fun e w' => ∃ v, e = .returned (.agg (uC t.last (t1.again s).2.1 true true (kd (t1.again s).2.2) v)) ∧ InfoAt w' w.heap.size v (t1.again s).2.2 ∧ CycIn w' p hb B T0 (t1.again s).1 s ∧ Foot (fun g => g = p ∨ T0 g) (fun g => g = p ∨ T0 g) w w' := by
  obtain ⟨W, hW, hB, hh⟩ := new_unit w
  have hs := hB.size
  have h1 := h.below hB
  obtain ⟨⟨c0, -, -, -, c4, c5, -⟩, hz⟩ := cyc_cells h1.cells
  have z5 := hz 5
  have hmu := much_any p hb B T0 t s W h1
  have HR : Hid (∀ r, r = w.heap.size → (∀ g, (g = p ∨ T0 g) → g ≠ r)) := fun r hr g hg e => by
    have := (h.at_.lt g hg).2
    omega
  have HW1 : Hid (∀ w1, Below W.heap.size W w1 → CycIn (w1.setCell ⟨p, 5, none⟩ (.bool true)) p hb B T0 t1 s ∧ (w1.setCell ⟨p, 5, none⟩ (.bool true)).heap[w.heap.size]? = some (.cells zeroU 32 (0, 0)) ∧ Foot (fun g => g = p ∨ T0 g) (fun g => g = p ∨ T0 g) w (w1.setCell ⟨p, 5, none⟩ (.bool true)) ∧ w1.cell? ⟨p, 0, none⟩ = some (.pointer (some ⟨hb, 0, none⟩)) ∧ w1.frozen? ⟨p, 5, none⟩ = false ∧ w1.cell? ⟨p, 5, none⟩ = some (.bool t.force)) := fun w1 hB1 => by
    have hin1 := h1.below hB1
    obtain ⟨⟨e0, -, -, -, -, e5, -⟩, hz1⟩ := cyc_cells hin1.cells
    have hh1 := (hB1.block _ (heap_lt hh)).trans hh
    obtain ⟨hin2, hF2⟩ := hin1.set (t' := { t with force := true }) (gb_set (k := 5) (.bool true)) (row_set (cyc_row hin1.cells) 5 (.bool true)) hin1.last hin1.pl
    rw [ht1]
    exact ⟨hin2, (hF2.block _ (heap_lt hh1) (fun e => HR.out _ rfl _ e rfl)).trans hh1, (Foot.of_below (hB.trans (below_le hB1 hs))).trans hF2, e0, hz1 5, e5⟩
  have HL : Hid (t1.last = t.last) := by show _ = _; rw [ht1]
  obtain ⟨⟨t6, f6, i6⟩, hN⟩ : ∃ N, N = t1.again s := ⟨_, rfl⟩
  rw [← hN]
  have HN : Hid ((t6, f6, i6) = t1.again s) := hN
  clear hN
  simp only
  clear h h1 hh hB hz
  rcases (by decide : ∀ b : Bool, b = false ∨ b = true) t.force with hfo | hfo
  · have hmt : t.much s = true := hf.resolve_left (by rw [hfo]; decide)
    rw [hmt] at hmu
    rw [hfo] at c5
    have HFO : Hid (t.force = false) := hfo
    clear hf hfo hmt ht1
    go_enter Tryz.func133, Tryz.ntmps133
    go_upto_region 1 with fail
    rw [← hW]
    clear hW
    go_wp2_with fail
    refine hmu.mono ?_
    rintro e w1 ⟨rfl, q, hq⟩
    obtain ⟨hin4, hh4, hF4, e0, y5, e5⟩ := HW1.out w1 (by rw [hq]; exact below_drewN (Below.refl _ _) q)
    rw [HFO.out] at e5
    obtain ⟨W4, hW4⟩ : ∃ W4, W4 = w1.setCell ⟨p, 5, none⟩ (.bool true) := ⟨_, rfl⟩
    rw [← hW4] at hin4 hh4 hF4
    have hag := again_any p hb B T0 t1 s W4 hin4 (Nat.le_trans hBw hF4.size)
    rw [HL.out, ← HN.out] at hag
    have HA : Hid (CycIn W4 p hb B T0 t1 s ∧ W4.heap[w.heap.size]? = some (.cells zeroU 32 (0, 0)) ∧ Foot (fun g => g = p ∨ T0 g) (fun g => g = p ∨ T0 g) w W4) := ⟨hin4, hh4, hF4⟩
    clear hin4 hh4 hF4 hq c0 c4 c5 z5 hmu
    simp only at hag
    go_wp2_with fail
    rw [← hW4]
    refine hag.mono ?_
    rintro e w5 ⟨v, rfl, hi5, hin5, hF5⟩
    clear hW4 e0 y5 e5
    obtain ⟨vo, vn, vc, rfl⟩ := hi5.form
    have hh5 := (hF5.block _ (heap_lt HA.out.2.1) (fun e => HR.out _ rfl _ e rfl)).trans HA.out.2.1
    have hst := st_unit (ds := uC t.last f6 true true (kd i6) (.slice vo vn vc)) hh5 rfl rfl (uC_one _ _ _ _ _ _ _ _)
    have hld := (ld_unit (putU_heap (ds := uC t.last f6 true true (kd i6) (.slice vo vn vc)) hh5 rfl) rfl).2
    have H5 : Hid (InfoAt w5 W4.heap.size (.slice vo vn vc) i6 ∧ CycIn w5 p hb B T0 t6 s ∧ Foot (fun g => g = p ∨ T0 g) (fun g => g = p ∨ T0 g) w w5) := ⟨hi5, hin5, HA.out.2.2.trans hF5⟩
    have HS4 : Hid (w.heap.size ≤ W4.heap.size) := HA.out.2.2.size
    clear hi5 hin5 hF5
    go_wp2
    refine bodyPost_ret (v := .agg (uC t.last f6 true true (kd i6) (.slice vo vn vc))) (by simp [results, Tryz.results133, asAddr, hld]) rfl ?_
    have hgb := putU_gb w5 w.heap.size (uC t.last f6 true true (kd i6) (.slice vo vn vc))
    have k5 : ∀ (g : Nat) cur, w5.heap[g]? = some (.cells cur 5 (0, 0)) → (putU w5 w.heap.size (uC t.last f6 true true (kd i6) (.slice vo vn vc))).heap[g]? = w5.heap[g]? := fun g cur hg => hgb.block g (heap_lt hg) (fun e => by
      simp only [Option.some.injEq] at e
      subst e
      rw [hh5] at hg
      simp at hg)
    exact ⟨_, rfl, (H5.out.1.mono HS4.out).keep k5, H5.out.2.1.off hgb hh5, H5.out.2.2.new hgb (Nat.le_refl _)⟩
  · rw [hfo] at c5
    clear hf ht1 hmu
    obtain ⟨hin4, hh4, hF4, -⟩ := HW1.out W (Below.refl _ _)
    obtain ⟨W4, hW4⟩ : ∃ W4, W4 = W.setCell ⟨p, 5, none⟩ (.bool true) := ⟨_, rfl⟩
    rw [← hW4] at hin4 hh4 hF4
    have hag := again_any p hb B T0 t1 s W4 hin4 (Nat.le_trans hBw hF4.size)
    rw [HL.out, ← HN.out] at hag
    have HA : Hid (CycIn W4 p hb B T0 t1 s ∧ W4.heap[w.heap.size]? = some (.cells zeroU 32 (0, 0)) ∧ Foot (fun g => g = p ∨ T0 g) (fun g => g = p ∨ T0 g) w W4) := ⟨hin4, hh4, hF4⟩
    clear hin4 hh4 hF4 hfo
    simp only at hag
    go_enter Tryz.func133, Tryz.ntmps133
    go_upto_region 1 with fail
    rw [← hW]
    clear hW
    go_wp2_with fail
    rw [← hW4]
    refine hag.mono ?_
    rintro e w5 ⟨v, rfl, hi5, hin5, hF5⟩
    clear hW4 c0 c4 c5 z5
    obtain ⟨vo, vn, vc, rfl⟩ := hi5.form
    have hh5 := (hF5.block _ (heap_lt HA.out.2.1) (fun e => HR.out _ rfl _ e rfl)).trans HA.out.2.1
    have hst := st_unit (ds := uC t.last f6 true true (kd i6) (.slice vo vn vc)) hh5 rfl rfl (uC_one _ _ _ _ _ _ _ _)
    have hld := (ld_unit (putU_heap (ds := uC t.last f6 true true (kd i6) (.slice vo vn vc)) hh5 rfl) rfl).2
    have H5 : Hid (InfoAt w5 W4.heap.size (.slice vo vn vc) i6 ∧ CycIn w5 p hb B T0 t6 s ∧ Foot (fun g => g = p ∨ T0 g) (fun g => g = p ∨ T0 g) w w5) := ⟨hi5, hin5, HA.out.2.2.trans hF5⟩
    have HS4 : Hid (w.heap.size ≤ W4.heap.size) := HA.out.2.2.size
    clear hi5 hin5 hF5
    go_wp2
    refine bodyPost_ret (v := .agg (uC t.last f6 true true (kd i6) (.slice vo vn vc))) (by simp [results, Tryz.results133, asAddr, hld]) rfl ?_
    have hgb := putU_gb w5 w.heap.size (uC t.last f6 true true (kd i6) (.slice vo vn vc))
    have k5 : ∀ (g : Nat) cur, w5.heap[g]? = some (.cells cur 5 (0, 0)) → (putU w5 w.heap.size (uC t.last f6 true true (kd i6) (.slice vo vn vc))).heap[g]? = w5.heap[g]? := fun g cur hg => hgb.block g (heap_lt hg) (fun e => by
      simp only [Option.some.injEq] at e
      subst e
      rw [hh5] at hg
      simp at hg)
    exact ⟨_, rfl, (H5.out.1.mono HS4.out).keep k5, H5.out.2.1.off hgb hh5, H5.out.2.2.new hgb (Nat.le_refl _)⟩
set_option maxRecDepth 100000 in
set_option maxHeartbeats 2000000 in
theorem next_else (p hb B : Nat) (T0 : Nat → Prop) (t : Cs) (s : Hs) (w : World) (h : CycIn w p hb B T0 t s) (hf : t.force = false) (hm : t.much s = false) (hn : s.next = [] ∨ 127 ≤ s.sent.length) (hBw : B ≤ w.heap.size) :
    Calls Tryz.prog 133 #[.pointer (some ⟨p, 0, none⟩)] w fun e w' => ∃ v, e = .returned (.agg (uC t.last (t.again s).2.1 true true (kd (t.again s).2.2) v)) ∧ InfoAt w' w.heap.size v (t.again s).2.2 ∧ CycIn w' p hb B T0 (t.again s).1 s ∧ Foot (fun g => g = p ∨ T0 g) (fun g => g = p ∨ T0 g) w w' := by
  obtain ⟨W, hW, hB, hh⟩ := new_unit w
  have hs := hB.size
  have h1 := h.below hB
  obtain ⟨⟨c0, -, -, -, c4, c5, -⟩, hz⟩ := cyc_cells h1.cells
  have z5 := hz 5
  rw [hf] at c5
  have hmu := much_any p hb B T0 t s W h1
  rw [hm] at hmu
  have HR : Hid (∀ r, r = w.heap.size → (∀ g, (g = p ∨ T0 g) → g ≠ r)) := fun r hr g hg e => by
    have := (h.at_.lt g hg).2
    omega
  have HW1 : Hid (∀ w1, Below W.heap.size W w1 → CycIn (w1.setCell ⟨p, 5, none⟩ (.bool false)) p hb B T0 t s ∧ (w1.setCell ⟨p, 5, none⟩ (.bool false)).heap[w.heap.size]? = some (.cells zeroU 32 (0, 0)) ∧ Foot (fun g => g = p ∨ T0 g) (fun g => g = p ∨ T0 g) w (w1.setCell ⟨p, 5, none⟩ (.bool false)) ∧ w1.cell? ⟨p, 0, none⟩ = some (.pointer (some ⟨hb, 0, none⟩)) ∧ w1.frozen? ⟨p, 5, none⟩ = false ∧ w1.cell? ⟨p, 5, none⟩ = some (.bool false)) := fun w1 hB1 => by
    have hin1 := h1.below hB1
    obtain ⟨⟨e0, -, -, -, -, e5, -⟩, hz1⟩ := cyc_cells hin1.cells
    have hh1 := (hB1.block _ (heap_lt hh)).trans hh
    have et : t = { t with force := false } := by rw [← hf]
    obtain ⟨hin2, hF2⟩ := hin1.set (t' := { t with force := false }) (gb_set (k := 5) (.bool false)) (row_set (cyc_row hin1.cells) 5 (.bool false)) hin1.last hin1.pl
    rw [← et] at hin2
    exact ⟨hin2, (hF2.block _ (heap_lt hh1) (fun e => HR.out _ rfl _ e rfl)).trans hh1, (Foot.of_below (hB.trans (below_le hB1 hs))).trans hF2, e0, hz1 5, hf ▸ e5⟩
  have hsend : ∀ w3, HoldAt w3 hb B T0 s → ∃ x, x ≠ 0 ∧ Calls Tryz.prog 142 #[.pointer (some ⟨hb, 0, none⟩)] w3 fun e w' => e = .returned (.tuple #[.int .u8 0, .slice none 0 0, .int .i64 x]) ∧ w' = w3 := fun w3 hw3 => by
    by_cases hne : s.next = []
    · exact ⟨2, by decide, send_none hb B T0 s w3 hw3 hne⟩
    · exact ⟨3, by decide, send_full hb B T0 s w3 hw3 hne (hn.resolve_left hne)⟩
  have HSE : Hid (∀ w3, HoldAt w3 hb B T0 s → ∃ x, x ≠ 0 ∧ Calls Tryz.prog 142 #[.pointer (some ⟨hb, 0, none⟩)] w3 fun e w' => e = .returned (.tuple #[.int .u8 0, .slice none 0 0, .int .i64 x]) ∧ w' = w3) := hsend
  obtain ⟨⟨t6, f6, i6⟩, hN⟩ : ∃ N, N = t.again s := ⟨_, rfl⟩
  rw [← hN]
  have HN : Hid ((t6, f6, i6) = t.again s) := hN
  clear h h1 hh hB hz hf hm hn hN hsend
  simp only
  go_enter Tryz.func133, Tryz.ntmps133
  go_upto_region 1 with fail
  rw [← hW]
  clear hW
  go_wp2_with fail
  refine hmu.mono ?_
  rintro e w1 ⟨rfl, q, hq⟩
  obtain ⟨hin4, hh4, hF4, e0, y5, e5⟩ := HW1.out w1 (by rw [hq]; exact below_drewN (Below.refl _ _) q)
  obtain ⟨W4, hW4⟩ : ∃ W4, W4 = w1.setCell ⟨p, 5, none⟩ (.bool false) := ⟨_, rfl⟩
  rw [← hW4] at hin4 hh4 hF4
  have hag := again_any p hb B T0 t s W4 hin4 (Nat.le_trans hBw hF4.size)
  rw [← HN.out] at hag
  have HA : Hid (CycIn W4 p hb B T0 t s ∧ W4.heap[w.heap.size]? = some (.cells zeroU 32 (0, 0)) ∧ Foot (fun g => g = p ∨ T0 g) (fun g => g = p ∨ T0 g) w W4) := ⟨hin4, hh4, hF4⟩
  obtain ⟨x, hx, hse⟩ := HSE.out W4 hin4.hold
  obtain ⟨⟨d0, -⟩, -⟩ := cyc_cells hin4.cells
  clear hin4 hh4 hF4 hq c0 c4 c5 z5 hmu
  simp only at hag
  go_wp2_with fail
  rw [← hW4]
  clear hW4 e0 y5 e5
  refine hse.mono ?_
  rintro e w4 ⟨rfl, hw4⟩
  obtain rfl := hw4.symm
  clear hw4
  go_wp2_with fail
  refine hag.mono ?_
  rintro e w5 ⟨v, rfl, hi5, hin5, hF5⟩
  clear hse d0
  obtain ⟨vo, vn, vc, rfl⟩ := hi5.form
  have hh5 := (hF5.block _ (heap_lt HA.out.2.1) (fun e => HR.out _ rfl _ e rfl)).trans HA.out.2.1
  have hst := st_unit (ds := uC t.last f6 true true (kd i6) (.slice vo vn vc)) hh5 rfl rfl (uC_one _ _ _ _ _ _ _ _)
  have hld := (ld_unit (putU_heap (ds := uC t.last f6 true true (kd i6) (.slice vo vn vc)) hh5 rfl) rfl).2
  have H5 : Hid (InfoAt w5 W4.heap.size (.slice vo vn vc) i6 ∧ CycIn w5 p hb B T0 t6 s ∧ Foot (fun g => g = p ∨ T0 g) (fun g => g = p ∨ T0 g) w w5) := ⟨hi5, hin5, HA.out.2.2.trans hF5⟩
  have HS4 : Hid (w.heap.size ≤ W4.heap.size) := HA.out.2.2.size
  clear hi5 hin5 hF5
  go_wp2
  refine bodyPost_ret (v := .agg (uC t.last f6 true true (kd i6) (.slice vo vn vc))) (by simp [results, Tryz.results133, asAddr, hld]) rfl ?_
  have hgb := putU_gb w5 w.heap.size (uC t.last f6 true true (kd i6) (.slice vo vn vc))
  have k5 : ∀ (g : Nat) cur, w5.heap[g]? = some (.cells cur 5 (0, 0)) → (putU w5 w.heap.size (uC t.last f6 true true (kd i6) (.slice vo vn vc))).heap[g]? = w5.heap[g]? := fun g cur hg => hgb.block g (heap_lt hg) (fun e => by
    simp only [Option.some.injEq] at e
    subst e
    rw [hh5] at hg
    simp at hg)
  exact ⟨_, rfl, (H5.out.1.mono HS4.out).keep k5, H5.out.2.1.off hgb hh5, H5.out.2.2.new hgb (Nat.le_refl _)⟩

set_option maxRecDepth 100000 in
set_option maxHeartbeats 2000000 in
theorem cnext_send (p hb B : Nat) (T0 : Nat → Prop) (t : Cs) (s : Hs) (x : List Int) (xs : List (List Int)) (w : World) (h : CycIn w p hb B T0 t s) (hf : t.force = false) (hm : t.much s = false) (hn : s.next = x :: xs) (h127 : s.sent.length < 127) (hBw : B ≤ w.heap.size) :
    Calls Tryz.prog 133 #[.pointer (some ⟨p, 0, none⟩)] w fun e w' => ∃ v T1, e = .returned (.agg (uC t.last ((s.first + s.sent.length) % 128) true true 2 v)) ∧ HMsg w' w.heap.size v x ∧ CycIn w' p hb B T1 t { s with sent := s.sent ++ [x], next := xs } ∧ Foot (fun g => g = p ∨ T0 g) (fun g => g = p ∨ T1 g) w w' := by
  have hmsg := h.hold.each.2 x (by rw [hn]; simp)
  obtain ⟨W, hW, hB, hh⟩ := new_unit w
  have hs := hB.size
  have h1 := h.below hB
  obtain ⟨⟨c0, -, -, -, c4, c5, -⟩, hz⟩ := cyc_cells h1.cells
  have z5 := hz 5
  rw [hf] at c5
  have hmu := much_any p hb B T0 t s W h1
  rw [hm] at hmu
  have HR : Hid (∀ r, r = w.heap.size → (∀ g, (g = p ∨ T0 g) → g ≠ r)) := fun r hr g hg e => by
    have := (h.at_.lt g hg).2
    omega
  have HW1 : Hid (∀ w1, Below W.heap.size W w1 → CycIn (w1.setCell ⟨p, 5, none⟩ (.bool false)) p hb B T0 t s ∧ (w1.setCell ⟨p, 5, none⟩ (.bool false)).heap[w.heap.size]? = some (.cells zeroU 32 (0, 0)) ∧ Foot (fun g => g = p ∨ T0 g) (fun g => g = p ∨ T0 g) w (w1.setCell ⟨p, 5, none⟩ (.bool false)) ∧ w1.cell? ⟨p, 0, none⟩ = some (.pointer (some ⟨hb, 0, none⟩)) ∧ w1.frozen? ⟨p, 5, none⟩ = false ∧ w1.cell? ⟨p, 5, none⟩ = some (.bool false)) := fun w1 hB1 => by
    have hin1 := h1.below hB1
    obtain ⟨⟨e0, -, -, -, -, e5, -⟩, hz1⟩ := cyc_cells hin1.cells
    have hh1 := (hB1.block _ (heap_lt hh)).trans hh
    have et : t = { t with force := false } := by rw [← hf]
    obtain ⟨hin2, hF2⟩ := hin1.set (t' := { t with force := false }) (gb_set (k := 5) (.bool false)) (row_set (cyc_row hin1.cells) 5 (.bool false)) hin1.last hin1.pl
    rw [← et] at hin2
    exact ⟨hin2, (hF2.block _ (heap_lt hh1) (fun e => HR.out _ rfl _ e rfl)).trans hh1, (Foot.of_below (hB.trans (below_le hB1 hs))).trans hF2, e0, hz1 5, hf ▸ e5⟩
  have HN : Hid (s.next = x :: xs) := hn
  clear h h1 hh hB hz hf hm hn
  go_enter Tryz.func133, Tryz.ntmps133
  go_upto_region 1 with fail
  rw [← hW]
  clear hW
  go_wp2_with fail
  refine hmu.mono ?_
  rintro e w1 ⟨rfl, q, hq⟩
  obtain ⟨hin4, hh4, hF4, e0, y5, e5⟩ := HW1.out w1 (by rw [hq]; exact below_drewN (Below.refl _ _) q)
  obtain ⟨W4, hW4⟩ : ∃ W4, W4 = w1.setCell ⟨p, 5, none⟩ (.bool false) := ⟨_, rfl⟩
  rw [← hW4] at hin4 hh4 hF4
  have hs4 := hF4.size
  have hse := send_ok hb B T0 s x xs W4 hin4.hold HN.out h127 (by omega)
  have HA : Hid (CycIn W4 p hb B T0 t s ∧ W4.heap[w.heap.size]? = some (.cells zeroU 32 (0, 0)) ∧ Foot (fun g => g = p ∨ T0 g) (fun g => g = p ∨ T0 g) w W4) := ⟨hin4, hh4, hF4⟩
  clear hin4 hh4 hF4 hq c0 c4 c5 z5 hmu
  go_wp2_with fail
  rw [← hW4]
  refine hse.mono ?_
  rintro e w5 ⟨v, T1, rfl, hown5, hat5, hF5⟩
  obtain ⟨g5, cap5, rfl⟩ := owns_some hown5 (by omega)
  obtain ⟨hin5, hF5'⟩ := HA.out.1.step hat5 hF5
  have hh5 := (hF5'.block _ (heap_lt HA.out.2.1) (fun e => HR.out _ rfl _ e rfl)).trans HA.out.2.1
  have hun := cunit_any p hb B T1 _ _ 2 ((s.first + s.sent.length) % 128) (some ⟨g5, 0, none⟩) x.length cap5 w5 hin5
  have H5 : Hid (CycIn w5 p hb B T1 t { s with sent := s.sent ++ [x], next := xs } ∧ Foot (fun g => g = p ∨ T0 g) (fun g => g = p ∨ T1 g) w w5 ∧ HMsg w5 w.heap.size (.slice (some ⟨g5, 0, none⟩) x.length cap5) x) := ⟨hin5, HA.out.2.2.trans hF5', ⟨owns_lower hown5 hs4, hmsg⟩⟩
  clear hown5 hat5 hF5 hF5' hin5 hW4 e0 y5 e5 hse
  go_wp2_with fail
  refine hun.mono ?_
  rintro e w6 ⟨rfl, hB6⟩
  have hh6 := (hB6.block _ (heap_lt hh5)).trans hh5
  have hst := st_unit (ds := uC t.last ((s.first + s.sent.length) % 128) true true 2 (.slice (some ⟨g5, 0, none⟩) x.length cap5)) hh6 rfl rfl (uC_one _ _ _ _ _ _ _ _)
  have hld := (ld_unit (putU_heap (ds := uC t.last ((s.first + s.sent.length) % 128) true true 2 (.slice (some ⟨g5, 0, none⟩) x.length cap5)) hh6 rfl) rfl).2
  go_wp2
  refine bodyPost_ret (v := .agg (uC t.last ((s.first + s.sent.length) % 128) true true 2 (.slice (some ⟨g5, 0, none⟩) x.length cap5))) (by simp [results, Tryz.results133, asAddr, hld]) rfl ?_
  have hgb := putU_gb w6 w.heap.size (uC t.last ((s.first + s.sent.length) % 128) true true 2 (.slice (some ⟨g5, 0, none⟩) x.length cap5))
  exact ⟨_, T1, rfl, (H5.out.2.2.below hB6).off hgb hh6 (by decide), (H5.out.1.below hB6).off hgb hh6, (H5.out.2.1.trans (Foot.of_below hB6)).new hgb (Nat.le_refl _)⟩

/-- What goes next: what it leaves, the number, the message. -/
def Cs.nx (t : Cs) (s : Hs) : (Cs × Hs) × Int × Option (List Int) :=
  if t.force = true ∨ t.much s = true then (((({ t with force := true } : Cs).again s).1, s), (({ t with force := true } : Cs).again s).2)
  else if 127 ≤ s.sent.length then (((t.again s).1, s), (t.again s).2)
  else match s.next with
    | [] => (((t.again s).1, s), (t.again s).2)
    | x :: xs => ((t, { s with sent := s.sent ++ [x], next := xs }), (s.first + s.sent.length) % 128, some x)

theorem cnext_any (p hb B : Nat) (T0 : Nat → Prop) (t : Cs) (s : Hs) (w : World) (h : CycIn w p hb B T0 t s) (hBw : B ≤ w.heap.size) :
    Calls Tryz.prog 133 #[.pointer (some ⟨p, 0, none⟩)] w fun e w' => ∃ v T1, e = .returned (.agg (uC t.last (t.nx s).2.1 true true (kd (t.nx s).2.2) v)) ∧ InfoAt w' w.heap.size v (t.nx s).2.2 ∧ CycIn w' p hb B T1 (t.nx s).1.1 (t.nx s).1.2 ∧ Foot (fun g => g = p ∨ T0 g) (fun g => g = p ∨ T1 g) w w' := by
  unfold Cs.nx
  by_cases h1 : t.force = true ∨ t.much s = true
  · rw [if_pos h1]
    refine (next_force p hb B T0 t _ s w h rfl h1 hBw).mono ?_
    rintro e w' ⟨v, h1, h2, h3, h4⟩
    exact ⟨v, T0, h1, h2, h3, h4⟩
  · rw [if_neg h1]
    have hf : t.force = false := Bool.eq_false_iff.2 fun e => h1 (.inl e)
    have hm : t.much s = false := Bool.eq_false_iff.2 fun e => h1 (.inr e)
    by_cases h2 : 127 ≤ s.sent.length
    · rw [if_pos h2]
      refine (next_else p hb B T0 t s w h hf hm (.inr h2) hBw).mono ?_
      rintro e w' ⟨v, h1, h2, h3, h4⟩
      exact ⟨v, T0, h1, h2, h3, h4⟩
    · rw [if_neg h2]
      cases hn : s.next with
      | nil =>
        refine (next_else p hb B T0 t s w h hf hm (.inl hn) hBw).mono ?_
        rintro e w' ⟨v, h1, h2, h3, h4⟩
        exact ⟨v, T0, h1, h2, h3, h4⟩
      | cons x xs => exact cnext_send p hb B T0 t s x xs w h hf hm hn (by omega) hBw
end Go.Proofs.YtldjglmelbkngaaGreat.Tape
