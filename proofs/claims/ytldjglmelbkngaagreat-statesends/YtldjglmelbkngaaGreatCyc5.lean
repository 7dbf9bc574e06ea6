/- The contracts of a Cyclic's Answer and Take. -/
import Derived.Test.YtldjglmelbkngaaGreatCyc4
import Derived.BigQuiet
namespace Go.Proofs.YtldjglmelbkngaaGreat.Tape
open Go.ChangeShapes Go.WideShapes Go.ChangeAt Go.RowKit
set_option linter.unusedVariables false

/-- What See leaves of the answers. -/
theorem csee_b {w : World} {p hb B : Nat} {T0 : Nat → Prop} {t : Cs} {s : Hs} (h : CycIn w p hb B T0 t s) (odd : Bool) (o : Bool) (ho : o = (odd && (t.b0 || t.b1))) :
    Calls Tryz.prog 138 #[.pointer (some ⟨p, 6, none⟩), .bool odd] w fun e w' => e = .returned (.bool o) ∧ CycIn w' p hb B T0 { t with b0 := odd, b1 := t.b0 } s ∧ Foot (fun g => g = p ∨ T0 g) (fun g => g = p ∨ T0 g) w w' := by
  obtain ⟨⟨-, -, -, -, -, -, c6, c7⟩, hz⟩ := cyc_cells h.cells
  refine (see_any p 6 odd t.b0 t.b1 w c6 (hz 6) c7 (hz 7)).mono ?_
  rintro e w' ⟨rfl, rfl⟩
  obtain ⟨h1, h2⟩ := h.set (t' := { t with b0 := odd, b1 := t.b0 }) ((gb_set (k := 6) (.bool odd)).trans (gb_set (k := 7) (.bool t.b0))) (row_set (row_set (cyc_row h.cells) 6 (.bool odd)) 7 (.bool t.b0)) h.last h.pl
  rw [ho]
  exact ⟨rfl, h1, h2⟩

set_option maxRecDepth 100000 in
set_option maxHeartbeats 2000000 in
theorem canswer_odd (p hb B : Nat) (T0 : Nat → Prop) (t : Cs) (s : Hs) (b f k st : Int) (ub uf wd : Bool) (x : Value) (r : Int) (w : World) (h : CycIn w p hb B T0 t s) (h0 : 0 ≤ b) (h1 : b ≤ 255) (hk : s.knows b = false) (hr : r = if t.b0 || t.b1 then 10 else 0) :
    Calls Tryz.prog 130 #[.pointer (some ⟨p, 0, none⟩), .agg #[.int .u8 b, .int .u8 f, .bool ub, .bool uf, .int .u8 k, .int .u8 st, .bool wd, x]] w fun e w' => e = .returned (.tuple #[.int .i64 0, .int .i64 r]) ∧ CycIn w' p hb B T0 { t with b0 := true, b1 := t.b0 } s ∧ Foot (fun g => g = p ∨ T0 g) (fun g => g = p ∨ T0 g) w w' := by
  obtain ⟨W, hW, hB, hh⟩ := box_unit w #[.int .u8 b, .int .u8 f, .bool ub, .bool uf, .int .u8 k, .int .u8 st, .bool wd, x]
  have hs := hB.size
  have hin := h.below hB
  have hfr := fun q => free_no hb B T0 s b (W.drewN q) (hin.hold.drewN q) h0 h1 hk
  obtain ⟨⟨c0, -⟩, -⟩ := cyc_cells hin.cells
  obtain ⟨⟨u0, -⟩, -⟩ := unit_cells hh
  have HIN : Hid (CycIn W p hb B T0 t s) := hin
  have HB : Hid (Below w.heap.size w W) := hB
  clear h hk hin hh hB
  go_enter Tryz.func130, Tryz.ntmps130
  go_upto_region 1 with fail
  rw [← hW]
  clear hW
  go_wp2_with fail
  go_quiet ((go_at_call 137; exact Calls.quiet_of_same (hfr _)))
  have hBq : Below W.heap.size W (W.drewN nq) := below_drewN (Below.refl _ _) nq
  have hin2 := HIN.out.below hBq
  obtain ⟨o, ho⟩ : ∃ o, o = (true && (t.b0 || t.b1)) := ⟨_, rfl⟩
  have hsee := csee_b hin2 true o ho
  rw [show (t.b0 || t.b1) = o by rw [ho, Bool.true_and]] at hr
  have HF2 : Hid (Foot (fun g => g = p ∨ T0 g) (fun g => g = p ∨ T0 g) w (W.drewN nq)) := Foot.of_below (HB.out.trans (below_le hBq hs))
  generalize W.drewN nq = W1 at *
  clear ho hin2 hBq hfr c0 u0
  go_wp2_with fail
  refine hsee.mono ?_
  rintro e w4 ⟨rfl, hin4, hF4⟩
  obtain ⟨⟨d0, -, -, -, d4, -⟩, dz⟩ := cyc_cells hin4.cells
  have dz4 := dz 4
  simp only at d4
  have H4 : Hid (CycIn w4 p hb B T0 { t with b0 := true, b1 := t.b0 } s ∧ Foot (fun g => g = p ∨ T0 g) (fun g => g = p ∨ T0 g) w w4) := ⟨hin4, HF2.out.trans hF4⟩
  have hpl := hin4.pl
  simp only at hpl
  obtain ⟨a, ha⟩ : ∃ a, a = t.pl := ⟨_, rfl⟩
  rw [← ha] at d4 hpl
  have HA : Hid (a = t.pl) := ha
  clear hin4 hF4 dz hsee ha
  cases o
  · simp only [Bool.false_eq_true, if_false] at hr
    subst hr
    have hfin : CycIn (w4.setCell ⟨p, 4, none⟩ (.int .i64 a)) p hb B T0 { t with b0 := true, b1 := t.b0 } s ∧ Foot (fun g => g = p ∨ T0 g) (fun g => g = p ∨ T0 g) w (w4.setCell ⟨p, 4, none⟩ (.int .i64 a)) := by
      obtain ⟨h1, h2⟩ := H4.out.1.set (t' := { t with b0 := true, b1 := t.b0 }) (gb_set (k := 4) (.int .i64 a)) (by rw [HA.out]; exact row_set (cyc_row H4.out.1.cells) 4 (.int .i64 t.pl)) H4.out.1.last H4.out.1.pl
      exact ⟨h1, H4.out.2.trans h2⟩
    have HFI : Hid _ := hfin
    clear hfin
    by_cases ha0 : a = 0
    · subst ha0
      go_wp2
      go_ret2
      exact ⟨rfl, HFI.out⟩
    · have ha1 : 0 < a := by omega
      go_wp2
      go_ret2
      exact ⟨rfl, HFI.out⟩
  · simp only [if_true] at hr
    subst hr
    go_wp2
    go_ret2
    exact ⟨rfl, H4.out⟩

set_option maxRecDepth 100000 in
set_option maxHeartbeats 2000000 in
theorem canswer_ok (p hb B : Nat) (T0 : Nat → Prop) (t : Cs) (s : Hs) (b f k st : Int) (ub uf wd : Bool) (x : Value) (g : Nat) (w : World) (h : CycIn w p hb B T0 t s) (h0 : 0 ≤ b) (hk : s.knows b = true) (hg : g = s.upTo b) :
    Calls Tryz.prog 130 #[.pointer (some ⟨p, 0, none⟩), .agg #[.int .u8 b, .int .u8 f, .bool ub, .bool uf, .int .u8 k, .int .u8 st, .bool wd, x]] w fun e w' => e = .returned (.tuple #[.int .i64 g, .int .i64 0]) ∧ ∃ T1, CycIn w' p hb B T1 { t with b0 := false, b1 := t.b0, pl := t.pl - g } (s.free b) ∧ Foot (fun g => g = p ∨ T0 g) (fun g => g = p ∨ T1 g) w w' := by
  have hg2 : g ≤ 128 := by
    rw [hg]
    unfold Hs.upTo
    omega
  obtain ⟨W, hW, hB, hh⟩ := box_unit w #[.int .u8 b, .int .u8 f, .bool ub, .bool uf, .int .u8 k, .int .u8 st, .bool wd, x]
  have hs := hB.size
  have hin := h.below hB
  have HR : Hid (∀ r, r = w.heap.size → (∀ g, (g = p ∨ T0 g) → g ≠ r)) := fun r hr g hg e => by
    have := (h.at_.lt g hg).2
    omega
  have hBD : Below W.heap.size W W.drew := (Below.refl _ _).drew
  have hfr := free_ok hb B T0 s b W.drew (hin.below hBD).hold h0 hk
  rw [← hg] at hfr
  have HS : Hid (∀ Y, Below W.heap.size W Y → Y.cell? ⟨p, 0, none⟩ = some (.pointer (some ⟨hb, 0, none⟩)) ∧ Y.cell? ⟨w.heap.size, 0, none⟩ = some (.int .u8 b)) := fun Y hY => ⟨(cyc_cells (hin.below hY).cells).1.1, (unit_cells ((hY.block _ (heap_lt hh)).trans hh)).1.1⟩
  have HIN : Hid (CycIn W.drew p hb B T0 t s) := hin.below hBD
  have HF0 : Hid (Foot (fun g => g = p ∨ T0 g) (fun g => g = p ∨ T0 g) w W.drew) := Foot.of_below (hB.trans (below_le hBD hs))
  have HU : Hid (W.drew.heap[w.heap.size]? = some (.cells #[.int .u8 b, .int .u8 f, .bool ub, .bool uf, .int .u8 k, .int .u8 st, .bool wd, x] 32 (0, 0))) := hh
  obtain ⟨c0, u0⟩ := HS.out W (Below.refl _ _)
  clear h hk hin hh hB hg
  go_enter Tryz.func130, Tryz.ntmps130
  go_upto_region 1 with fail
  rw [← hW]
  clear hW
  go_wp2_with fail
  clear c0 u0
  go_region_held (fun W => W.cell? ⟨p, 0, none⟩ = some (.pointer (some ⟨hb, 0, none⟩)) ∧ W.cell? ⟨w.heap.size, 0, none⟩ = some (.int .u8 b)) (first | assumption | (refine HS.out _ ?_; assumption))
    (first
    | (go_at_call 137; refine hfr.mono ?_; rintro e w5 ⟨rfl, T1, hat5, hF5⟩; have hst5 := HIN.out.step hat5 hF5; have HIN5 : Hid (CycIn w5 p hb B T1 t (s.free b) ∧ Foot (fun g => g = p ∨ T0 g) (fun g => g = p ∨ T1 g) w w5) := ⟨hst5.1, HF0.out.trans hst5.2⟩; have hu5 := (hst5.2.block _ (heap_lt HU.out) (fun e => HR.out _ rfl _ e rfl)).trans HU.out; have hS5 : w5.cell? ⟨p, 0, none⟩ = some (.pointer (some ⟨hb, 0, none⟩)) ∧ w5.cell? ⟨w.heap.size, 0, none⟩ = some (.int .u8 b) := ⟨(cyc_cells HIN5.out.1.cells).1.1, (unit_cells hu5).1.1⟩; clear hat5 hF5 hst5 hu5))
  have hsee := csee_b HIN5.out.1 false false rfl
  clear hfr hS5 hBD
  go_wp2_with fail
  refine hsee.mono ?_
  rintro e w4 ⟨rfl, hin4, hF4⟩
  obtain ⟨⟨d0, -, -, -, d4, -⟩, dz⟩ := cyc_cells hin4.cells
  have dz4 := dz 4
  have hpl := hin4.pl
  simp only at d4 hpl
  obtain ⟨a, ha⟩ : ∃ a, a = t.pl := ⟨_, rfl⟩
  rw [← ha] at d4 hpl
  have HA : Hid (a = t.pl) := ha
  have hfin : ∀ c : Nat, c = a - g → CycIn (w4.setCell ⟨p, 4, none⟩ (.int .i64 c)) p hb B T1 { t with b0 := false, b1 := t.b0, pl := t.pl - g } (s.free b) ∧ Foot (fun g => g = p ∨ T0 g) (fun g => g = p ∨ T1 g) w (w4.setCell ⟨p, 4, none⟩ (.int .i64 c)) := fun c hc => by
    rw [hc, ha]
    obtain ⟨h1, h2⟩ := hin4.set (t' := { t with b0 := false, b1 := t.b0, pl := t.pl - g }) (gb_set (k := 4) (.int .i64 ((t.pl - g : Nat) : Int))) (row_set (cyc_row hin4.cells) 4 (.int .i64 ((t.pl - g : Nat) : Int))) hin4.last (by simp only; omega)
    exact ⟨h1, (HIN5.out.2.trans hF4).trans h2⟩
  have HFI : Hid (∀ c : Nat, c = a - g → CycIn (w4.setCell ⟨p, 4, none⟩ (.int .i64 c)) p hb B T1 { t with b0 := false, b1 := t.b0, pl := t.pl - g } (s.free b) ∧ Foot (fun g => g = p ∨ T0 g) (fun g => g = p ∨ T1 g) w (w4.setCell ⟨p, 4, none⟩ (.int .i64 c))) := hfin
  clear hin4 hF4 dz hsee ha hfin
  rcases Nat.lt_trichotomy a g with hag | hag | hag
  · have e1 : (a : Int) - g < 0 := by omega
    go_wp2
    go_ret2
    exact ⟨rfl, T1, HFI.out 0 (by omega)⟩
  · have e1 : (a : Int) - g = 0 := by omega
    go_wp2
    go_ret2
    exact ⟨rfl, T1, HFI.out 0 (by omega)⟩
  · obtain ⟨c, hc⟩ : ∃ c : Nat, (a : Int) - g = c := ⟨a - g, by omega⟩
    have e1 : (0 : Int) < c := by omega
    have e2 : c = a - g := by omega
    have HE : Hid (c = a - g) := e2
    have e3 : IntKind.i64.wrap ((a : Int) - g) = c := by rw [hc]; exact wrap_small _ (by omega) (by omega)
    clear e2 hc
    go_wp2
    go_ret2
    exact ⟨rfl, T1, HFI.out c HE.out⟩
end Go.Proofs.YtldjglmelbkngaaGreat.Tape
