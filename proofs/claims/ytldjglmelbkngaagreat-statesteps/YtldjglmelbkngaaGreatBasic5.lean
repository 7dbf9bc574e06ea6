/- The contract of a Basic's Take. -/
import Derived.Test.YtldjglmelbkngaaGreatBasic4
namespace Go.Proofs.YtldjglmelbkngaaGreat.Tape
open Go.ChangeShapes Go.WideShapes Go.ChangeAt Go.RowKit
set_option linter.unusedVariables false

/-- What See leaves of the indicators. -/
theorem see_in {w : World} {p hb B : Nat} {T0 : Nat → Prop} {t : Bs} {s : Hs} (h : BasIn w p hb B T0 t s) (odd : Bool) (o : Bool) (ho : o = (odd && (t.i0 || t.i1))) :
    Calls Tryz.prog 138 #[.pointer (some ⟨p, 8, none⟩), .bool odd] w fun e w' => e = .returned (.bool o) ∧ BasIn w' p hb B T0 { t with i0 := odd, i1 := t.i0 } s ∧ Foot (fun g => g = p ∨ T0 g) (fun g => g = p ∨ T0 g) w w' := by
  obtain ⟨⟨-, -, -, -, -, -, -, -, c8, c9⟩, hz⟩ := bas_cells h.cells
  refine (see_any p 8 odd t.i0 t.i1 w c8 (hz 8) c9 (hz 9)).mono ?_
  rintro e w' ⟨rfl, rfl⟩
  rw [ho]
  exact ⟨rfl, (see_i h odd).1, (see_i h odd).2⟩

set_option maxRecDepth 100000 in
set_option maxHeartbeats 4000000 in
theorem take_stale (p hb B : Nat) (T0 : Nat → Prop) (t : Bs) (s : Hs) (b f k st : Int) (ub uf wd : Bool) (x : Value) (r : Int) (o od : Bool) (w : World) (h : BasIn w p hb B T0 t s) (hst : uf = !t.bib) (hod : od = !t.ask) (ho : o = (od && (t.i0 || t.i1))) (hr : r = if o then 10 else 0) :
    Calls Tryz.prog 162 #[.pointer (some ⟨p, 0, none⟩), .agg #[.int .u8 b, .int .u8 f, .bool ub, .bool uf, .int .u8 k, .int .u8 st, .bool wd, x]] w fun e w' => e = .returned (.tuple #[.slice none 0 0, .bool false, .int .i64 r]) ∧ BasIn w' p hb B T0 { t with i0 := od, i1 := t.i0 } s ∧ Foot (fun g => g = p ∨ T0 g) (fun g => g = p ∨ T0 g) w w' := by
  have HO : Hid (o = (od && (t.i0 || t.i1))) := ho
  clear ho
  rcases (by decide : ∀ b : Bool, b = false ∨ b = true) t.bib with hbb | hbb
  all_goals rw [hbb] at hst
  · obtain rfl : uf = true := hst
    have HBB : Hid (t.bib = false) := hbb
    clear hbb
    rcases (by decide : ∀ b : Bool, b = false ∨ b = true) t.ask with hta | hta
    all_goals rw [hta] at hod
    · obtain rfl : od = true := hod
      have HTA : Hid (t.ask = false) := hta
      clear hta
      obtain ⟨W, hW, hB, hh⟩ := box_unit w #[.int .u8 b, .int .u8 f, .bool ub, .bool true, .int .u8 k, .int .u8 st, .bool wd, x]
      have hs := hB.size
      have hin := h.below hB
      have hlast := h.last
      have HR : Hid (∀ g, (g = p ∨ T0 g) → g ≠ w.heap.size) := fun g hg e => by
        have := (h.at_.lt g hg).2
        omega
      obtain ⟨⟨-, -, c2, -⟩, -⟩ := bas_cells hin.cells
      obtain ⟨⟨-, -, -, u3, -⟩, -⟩ := unit_cells hh
      rw [HBB.out] at c2
      have HIN : Hid (BasIn W p hb B T0 t s) := hin
      have HB : Hid (Below w.heap.size w W) := hB
      have HU : Hid (W.heap[w.heap.size]? = some (.cells #[.int .u8 b, .int .u8 f, .bool ub, .bool true, .int .u8 k, .int .u8 st, .bool wd, x] 32 (0, 0))) := hh
      clear h hin hh hB
      go_enter Tryz.func162, Tryz.ntmps162
      go_upto_region 1 with fail
      rw [← hW]
      clear hW
      go_wp2_with fail
      go_quiet (fail)
      go_upto_region 4 with fail
      have hBq : Below W.heap.size W (W.drewN nq) := below_drewN (Below.refl _ _) nq
      have hBq2 : Below W.heap.size W ((W.drewN nq).drew) := hBq.drew
      have hin2 := HIN.out.below hBq2
      have hh2 := (hBq2.block _ (heap_lt HU.out)).trans HU.out
      have hF2 : Foot (fun g => g = p ∨ T0 g) (fun g => g = p ∨ T0 g) w ((W.drewN nq).drew) := Foot.of_below (HB.out.trans (below_le hBq2 hs))
      have hS : (W.drewN nq).drew.cell? ⟨p, 4, none⟩ = some (.bool false) := HTA.out ▸ (bas_cells hin2.cells).1.2.2.2.2.1
      have hsee := see_in hin2 true o HO.out
      have HF2 : Hid (Foot (fun g => g = p ∨ T0 g) (fun g => g = p ∨ T0 g) w ((W.drewN nq).drew)) := hF2
      have HU2 : Hid ((W.drewN nq).drew.heap[w.heap.size]? = some (.cells #[.int .u8 b, .int .u8 f, .bool ub, .bool true, .int .u8 k, .int .u8 st, .bool wd, x] 32 (0, 0))) := hh2
      generalize (W.drewN nq) = W1 at *
      clear hBq hBq2 hin2 hh2 hF2 c2 u3
      go_region_held (fun W => W.cell? ⟨p, 4, none⟩ = some (.bool false)) (assumption)
        (first
        | (go_at_call 138; refine hsee.mono ?_; rintro e w5 ⟨rfl, hin5, hF5⟩; have HIN5 : Hid (BasIn w5 p hb B T0 { t with i0 := true, i1 := t.i0 } s) := hin5; have HF5 : Hid (Foot (fun g => g = p ∨ T0 g) (fun g => g = p ∨ T0 g) w w5) := HF2.out.trans hF5; have HU5 : Hid (w5.heap[w.heap.size]? = some (.cells #[.int .u8 b, .int .u8 f, .bool ub, .bool true, .int .u8 k, .int .u8 st, .bool wd, x] 32 (0, 0))) := (hF5.block _ (heap_lt HU2.out) (fun e => HR.out _ e rfl)).trans HU2.out; have hS5 : w5.cell? ⟨p, 4, none⟩ = some (.bool false) := (HTA.out ▸ (bas_cells hin5.cells).1.2.2.2.2.1); clear hin5 hF5))
      clear hsee HF2 HU2 hS hS5
      obtain ⟨⟨d0, d1, d2, d3, d4, -⟩, dz⟩ := bas_cells HIN5.out.cells
      obtain ⟨⟨v0, v1, v2, v3, v4, v5, v6, v7⟩, vz⟩ := unit_cells HU5.out
      simp only at d2 d3 d4
      rw [HBB.out] at d2
      clear dz vz d4
      cases o
      all_goals
        simp only [Bool.false_eq_true, if_false, if_true] at hr
        subst hr
        go_wp2
        go_ret3
        exact ⟨rfl, HIN5.out, HF5.out⟩
    · obtain rfl : od = false := hod
      have HTA : Hid (t.ask = true) := hta
      clear hta
      obtain ⟨W, hW, hB, hh⟩ := box_unit w #[.int .u8 b, .int .u8 f, .bool ub, .bool true, .int .u8 k, .int .u8 st, .bool wd, x]
      have hs := hB.size
      have hin := h.below hB
      have hlast := h.last
      have HR : Hid (∀ g, (g = p ∨ T0 g) → g ≠ w.heap.size) := fun g hg e => by
        have := (h.at_.lt g hg).2
        omega
      obtain ⟨⟨-, -, c2, -⟩, -⟩ := bas_cells hin.cells
      obtain ⟨⟨-, -, -, u3, -⟩, -⟩ := unit_cells hh
      rw [HBB.out] at c2
      have HIN : Hid (BasIn W p hb B T0 t s) := hin
      have HB : Hid (Below w.heap.size w W) := hB
      have HU : Hid (W.heap[w.heap.size]? = some (.cells #[.int .u8 b, .int .u8 f, .bool ub, .bool true, .int .u8 k, .int .u8 st, .bool wd, x] 32 (0, 0))) := hh
      clear h hin hh hB
      go_enter Tryz.func162, Tryz.ntmps162
      go_upto_region 1 with fail
      rw [← hW]
      clear hW
      go_wp2_with fail
      go_quiet (fail)
      go_upto_region 4 with fail
      have hBq : Below W.heap.size W (W.drewN nq) := below_drewN (Below.refl _ _) nq
      have hBq2 : Below W.heap.size W ((W.drewN nq).drew) := hBq.drew
      have hin2 := HIN.out.below hBq2
      have hh2 := (hBq2.block _ (heap_lt HU.out)).trans HU.out
      have hF2 : Foot (fun g => g = p ∨ T0 g) (fun g => g = p ∨ T0 g) w ((W.drewN nq).drew) := Foot.of_below (HB.out.trans (below_le hBq2 hs))
      have hS : (W.drewN nq).drew.cell? ⟨p, 4, none⟩ = some (.bool true) := HTA.out ▸ (bas_cells hin2.cells).1.2.2.2.2.1
      have hsee := see_in hin2 false o HO.out
      have HF2 : Hid (Foot (fun g => g = p ∨ T0 g) (fun g => g = p ∨ T0 g) w ((W.drewN nq).drew)) := hF2
      have HU2 : Hid ((W.drewN nq).drew.heap[w.heap.size]? = some (.cells #[.int .u8 b, .int .u8 f, .bool ub, .bool true, .int .u8 k, .int .u8 st, .bool wd, x] 32 (0, 0))) := hh2
      generalize (W.drewN nq) = W1 at *
      clear hBq hBq2 hin2 hh2 hF2 c2 u3
      go_region_held (fun W => W.cell? ⟨p, 4, none⟩ = some (.bool true)) (assumption)
        (first
        | (go_at_call 138; refine hsee.mono ?_; rintro e w5 ⟨rfl, hin5, hF5⟩; have HIN5 : Hid (BasIn w5 p hb B T0 { t with i0 := false, i1 := t.i0 } s) := hin5; have HF5 : Hid (Foot (fun g => g = p ∨ T0 g) (fun g => g = p ∨ T0 g) w w5) := HF2.out.trans hF5; have HU5 : Hid (w5.heap[w.heap.size]? = some (.cells #[.int .u8 b, .int .u8 f, .bool ub, .bool true, .int .u8 k, .int .u8 st, .bool wd, x] 32 (0, 0))) := (hF5.block _ (heap_lt HU2.out) (fun e => HR.out _ e rfl)).trans HU2.out; have hS5 : w5.cell? ⟨p, 4, none⟩ = some (.bool true) := (HTA.out ▸ (bas_cells hin5.cells).1.2.2.2.2.1); clear hin5 hF5))
      clear hsee HF2 HU2 hS hS5
      obtain ⟨⟨d0, d1, d2, d3, d4, -⟩, dz⟩ := bas_cells HIN5.out.cells
      obtain ⟨⟨v0, v1, v2, v3, v4, v5, v6, v7⟩, vz⟩ := unit_cells HU5.out
      simp only at d2 d3 d4
      rw [HBB.out] at d2
      clear dz vz d4
      cases o
      all_goals
        simp only [Bool.false_eq_true, if_false, if_true] at hr
        subst hr
        go_wp2
        go_ret3
        exact ⟨rfl, HIN5.out, HF5.out⟩
  · obtain rfl : uf = false := hst
    have HBB : Hid (t.bib = true) := hbb
    clear hbb
    rcases (by decide : ∀ b : Bool, b = false ∨ b = true) t.ask with hta | hta
    all_goals rw [hta] at hod
    · obtain rfl : od = true := hod
      have HTA : Hid (t.ask = false) := hta
      clear hta
      obtain ⟨W, hW, hB, hh⟩ := box_unit w #[.int .u8 b, .int .u8 f, .bool ub, .bool false, .int .u8 k, .int .u8 st, .bool wd, x]
      have hs := hB.size
      have hin := h.below hB
      have hlast := h.last
      have HR : Hid (∀ g, (g = p ∨ T0 g) → g ≠ w.heap.size) := fun g hg e => by
        have := (h.at_.lt g hg).2
        omega
      obtain ⟨⟨-, -, c2, -⟩, -⟩ := bas_cells hin.cells
      obtain ⟨⟨-, -, -, u3, -⟩, -⟩ := unit_cells hh
      rw [HBB.out] at c2
      have HIN : Hid (BasIn W p hb B T0 t s) := hin
      have HB : Hid (Below w.heap.size w W) := hB
      have HU : Hid (W.heap[w.heap.size]? = some (.cells #[.int .u8 b, .int .u8 f, .bool ub, .bool false, .int .u8 k, .int .u8 st, .bool wd, x] 32 (0, 0))) := hh
      clear h hin hh hB
      go_enter Tryz.func162, Tryz.ntmps162
      go_upto_region 1 with fail
      rw [← hW]
      clear hW
      go_wp2_with fail
      go_quiet (fail)
      go_upto_region 4 with fail
      have hBq : Below W.heap.size W (W.drewN nq) := below_drewN (Below.refl _ _) nq
      have hBq2 : Below W.heap.size W ((W.drewN nq).drew) := hBq.drew
      have hin2 := HIN.out.below hBq2
      have hh2 := (hBq2.block _ (heap_lt HU.out)).trans HU.out
      have hF2 : Foot (fun g => g = p ∨ T0 g) (fun g => g = p ∨ T0 g) w ((W.drewN nq).drew) := Foot.of_below (HB.out.trans (below_le hBq2 hs))
      have hS : (W.drewN nq).drew.cell? ⟨p, 4, none⟩ = some (.bool false) := HTA.out ▸ (bas_cells hin2.cells).1.2.2.2.2.1
      have hsee := see_in hin2 true o HO.out
      have HF2 : Hid (Foot (fun g => g = p ∨ T0 g) (fun g => g = p ∨ T0 g) w ((W.drewN nq).drew)) := hF2
      have HU2 : Hid ((W.drewN nq).drew.heap[w.heap.size]? = some (.cells #[.int .u8 b, .int .u8 f, .bool ub, .bool false, .int .u8 k, .int .u8 st, .bool wd, x] 32 (0, 0))) := hh2
      generalize (W.drewN nq) = W1 at *
      clear hBq hBq2 hin2 hh2 hF2 c2 u3
      go_region_held (fun W => W.cell? ⟨p, 4, none⟩ = some (.bool false)) (assumption)
        (first
        | (go_at_call 138; refine hsee.mono ?_; rintro e w5 ⟨rfl, hin5, hF5⟩; have HIN5 : Hid (BasIn w5 p hb B T0 { t with i0 := true, i1 := t.i0 } s) := hin5; have HF5 : Hid (Foot (fun g => g = p ∨ T0 g) (fun g => g = p ∨ T0 g) w w5) := HF2.out.trans hF5; have HU5 : Hid (w5.heap[w.heap.size]? = some (.cells #[.int .u8 b, .int .u8 f, .bool ub, .bool false, .int .u8 k, .int .u8 st, .bool wd, x] 32 (0, 0))) := (hF5.block _ (heap_lt HU2.out) (fun e => HR.out _ e rfl)).trans HU2.out; have hS5 : w5.cell? ⟨p, 4, none⟩ = some (.bool false) := (HTA.out ▸ (bas_cells hin5.cells).1.2.2.2.2.1); clear hin5 hF5))
      clear hsee HF2 HU2 hS hS5
      obtain ⟨⟨d0, d1, d2, d3, d4, -⟩, dz⟩ := bas_cells HIN5.out.cells
      obtain ⟨⟨v0, v1, v2, v3, v4, v5, v6, v7⟩, vz⟩ := unit_cells HU5.out
      simp only at d2 d3 d4
      rw [HBB.out] at d2
      clear dz vz d4
      cases o
      all_goals
        simp only [Bool.false_eq_true, if_false, if_true] at hr
        subst hr
        go_wp2
        go_ret3
        exact ⟨rfl, HIN5.out, HF5.out⟩
    · obtain rfl : od = false := hod
      have HTA : Hid (t.ask = true) := hta
      clear hta
      obtain ⟨W, hW, hB, hh⟩ := box_unit w #[.int .u8 b, .int .u8 f, .bool ub, .bool false, .int .u8 k, .int .u8 st, .bool wd, x]
      have hs := hB.size
      have hin := h.below hB
      have hlast := h.last
      have HR : Hid (∀ g, (g = p ∨ T0 g) → g ≠ w.heap.size) := fun g hg e => by
        have := (h.at_.lt g hg).2
        omega
      obtain ⟨⟨-, -, c2, -⟩, -⟩ := bas_cells hin.cells
      obtain ⟨⟨-, -, -, u3, -⟩, -⟩ := unit_cells hh
      rw [HBB.out] at c2
      have HIN : Hid (BasIn W p hb B T0 t s) := hin
      have HB : Hid (Below w.heap.size w W) := hB
      have HU : Hid (W.heap[w.heap.size]? = some (.cells #[.int .u8 b, .int .u8 f, .bool ub, .bool false, .int .u8 k, .int .u8 st, .bool wd, x] 32 (0, 0))) := hh
      clear h hin hh hB
      go_enter Tryz.func162, Tryz.ntmps162
      go_upto_region 1 with fail
      rw [← hW]
      clear hW
      go_wp2_with fail
      go_quiet (fail)
      go_upto_region 4 with fail
      have hBq : Below W.heap.size W (W.drewN nq) := below_drewN (Below.refl _ _) nq
      have hBq2 : Below W.heap.size W ((W.drewN nq).drew) := hBq.drew
      have hin2 := HIN.out.below hBq2
      have hh2 := (hBq2.block _ (heap_lt HU.out)).trans HU.out
      have hF2 : Foot (fun g => g = p ∨ T0 g) (fun g => g = p ∨ T0 g) w ((W.drewN nq).drew) := Foot.of_below (HB.out.trans (below_le hBq2 hs))
      have hS : (W.drewN nq).drew.cell? ⟨p, 4, none⟩ = some (.bool true) := HTA.out ▸ (bas_cells hin2.cells).1.2.2.2.2.1
      have hsee := see_in hin2 false o HO.out
      have HF2 : Hid (Foot (fun g => g = p ∨ T0 g) (fun g => g = p ∨ T0 g) w ((W.drewN nq).drew)) := hF2
      have HU2 : Hid ((W.drewN nq).drew.heap[w.heap.size]? = some (.cells #[.int .u8 b, .int .u8 f, .bool ub, .bool false, .int .u8 k, .int .u8 st, .bool wd, x] 32 (0, 0))) := hh2
      generalize (W.drewN nq) = W1 at *
      clear hBq hBq2 hin2 hh2 hF2 c2 u3
      go_region_held (fun W => W.cell? ⟨p, 4, none⟩ = some (.bool true)) (assumption)
        (first
        | (go_at_call 138; refine hsee.mono ?_; rintro e w5 ⟨rfl, hin5, hF5⟩; have HIN5 : Hid (BasIn w5 p hb B T0 { t with i0 := false, i1 := t.i0 } s) := hin5; have HF5 : Hid (Foot (fun g => g = p ∨ T0 g) (fun g => g = p ∨ T0 g) w w5) := HF2.out.trans hF5; have HU5 : Hid (w5.heap[w.heap.size]? = some (.cells #[.int .u8 b, .int .u8 f, .bool ub, .bool false, .int .u8 k, .int .u8 st, .bool wd, x] 32 (0, 0))) := (hF5.block _ (heap_lt HU2.out) (fun e => HR.out _ e rfl)).trans HU2.out; have hS5 : w5.cell? ⟨p, 4, none⟩ = some (.bool true) := (HTA.out ▸ (bas_cells hin5.cells).1.2.2.2.2.1); clear hin5 hF5))
      clear hsee HF2 HU2 hS hS5
      obtain ⟨⟨d0, d1, d2, d3, d4, -⟩, dz⟩ := bas_cells HIN5.out.cells
      obtain ⟨⟨v0, v1, v2, v3, v4, v5, v6, v7⟩, vz⟩ := unit_cells HU5.out
      simp only at d2 d3 d4
      rw [HBB.out] at d2
      clear dz vz d4
      cases o
      all_goals
        simp only [Bool.false_eq_true, if_false, if_true] at hr
        subst hr
        go_wp2
        go_ret3
        exact ⟨rfl, HIN5.out, HF5.out⟩

set_option maxRecDepth 100000 in
set_option maxHeartbeats 4000000 in
theorem take_in (p hb B : Nat) (T0 : Nat → Prop) (t : Bs) (s : Hs) (b f st : Int) (ub uf wd : Bool) (ga off m cap : Nat) (xs : List Int) (w : World) (h : BasIn w p hb B T0 t s) (hst : uf = t.bib) (hf : f = (t.last + 1) % 128) (hm : xs.length = m) (hl : m ≤ 1000) (hrd : Reads w (some ⟨ga, off, none⟩) (xs.map (.int .u8))) (hga : ∀ g, (g = p ∨ T0 g) → g ≠ ga) (hlt : ga < w.heap.size) :
    Calls Tryz.prog 162 #[.pointer (some ⟨p, 0, none⟩), .agg #[.int .u8 b, .int .u8 f, .bool ub, .bool uf, .int .u8 2, .int .u8 st, .bool wd, .slice (some ⟨ga, off, none⟩) m cap]] w fun e w' => ∃ v, e = .returned (.tuple #[v, .bool true, .int .i64 0]) ∧ w'.ownsRow w.heap.size 5 1 v m (xs.map (.int .u8)) ∧ BasIn w' p hb B T0 { t with i0 := false, i1 := t.i0, last := f, ask := false } s ∧ Foot (fun g => g = p ∨ T0 g) (fun g => g = p ∨ T0 g) w w' := by
  obtain ⟨o, ho⟩ : ∃ o, o = (false && (t.i0 || t.i1)) := ⟨_, rfl⟩
  have HO : Hid (o = (false && (t.i0 || t.i1))) := ho
  have HF : Hid (f = (t.last + 1) % 128) := hf
  clear hf
  rcases (by decide : ∀ b : Bool, b = false ∨ b = true) t.bib with hbb | hbb
  all_goals rw [hbb] at hst
  · obtain rfl : uf = false := hst
    have HBB : Hid (t.bib = false) := hbb
    clear hbb
    obtain ⟨W, hW, hB, hh⟩ := box_unit w #[.int .u8 b, .int .u8 f, .bool ub, .bool false, .int .u8 2, .int .u8 st, .bool wd, .slice (some ⟨ga, off, none⟩) m cap]
    have hs := hB.size
    have hin := h.below hB
    have hlast := h.last
    have HR : Hid (∀ g, (g = p ∨ T0 g) → g ≠ w.heap.size) := fun g hg e => by
      have := (h.at_.lt g hg).2
      omega
    obtain ⟨⟨-, -, c2, -⟩, -⟩ := bas_cells hin.cells
    obtain ⟨⟨-, -, -, u3, -⟩, -⟩ := unit_cells hh
    rw [HBB.out] at c2
    have HIN : Hid (BasIn W p hb B T0 t s) := hin
    have HB : Hid (Below w.heap.size w W) := hB
    have HU : Hid (W.heap[w.heap.size]? = some (.cells #[.int .u8 b, .int .u8 f, .bool ub, .bool false, .int .u8 2, .int .u8 st, .bool wd, .slice (some ⟨ga, off, none⟩) m cap] 32 (0, 0))) := hh
    clear h hin hh hB
    go_enter Tryz.func162, Tryz.ntmps162
    go_upto_region 1 with fail
    rw [← hW]
    clear hW
    go_wp2_with fail
    go_quiet (fail)
    go_upto_region 4 with fail
    have hBq : Below W.heap.size W (W.drewN nq) := below_drewN (Below.refl _ _) nq
    have hBq2 : Below W.heap.size W ((W.drewN nq).drew) := hBq.drew
    have hin2 := HIN.out.below hBq2
    have hh2 := (hBq2.block _ (heap_lt HU.out)).trans HU.out
    have hF2 : Foot (fun g => g = p ∨ T0 g) (fun g => g = p ∨ T0 g) w ((W.drewN nq).drew) := Foot.of_below (HB.out.trans (below_le hBq2 hs))
    have hS : (W.drewN nq).drew.cell? ⟨p, 4, none⟩ = some (.bool t.ask) := (bas_cells hin2.cells).1.2.2.2.2.1
    have hsee := see_in hin2 false o HO.out
    have HF2 : Hid (Foot (fun g => g = p ∨ T0 g) (fun g => g = p ∨ T0 g) w ((W.drewN nq).drew)) := hF2
    have HU2 : Hid ((W.drewN nq).drew.heap[w.heap.size]? = some (.cells #[.int .u8 b, .int .u8 f, .bool ub, .bool false, .int .u8 2, .int .u8 st, .bool wd, .slice (some ⟨ga, off, none⟩) m cap] 32 (0, 0))) := hh2
    generalize (W.drewN nq) = W1 at *
    clear hBq hBq2 hin2 hh2 hF2 c2 u3
    first
    | (go_region_with
        (first
        | (go_at_call 138; refine hsee.mono ?_; rintro e w5 ⟨rfl, hin5, hF5⟩; have HIN5 : Hid (BasIn w5 p hb B T0 { t with i0 := false, i1 := t.i0 } s) := hin5; have HF5 : Hid (Foot (fun g => g = p ∨ T0 g) (fun g => g = p ∨ T0 g) w w5) := HF2.out.trans hF5; have HU5 : Hid (w5.heap[w.heap.size]? = some (.cells #[.int .u8 b, .int .u8 f, .bool ub, .bool false, .int .u8 2, .int .u8 st, .bool wd, .slice (some ⟨ga, off, none⟩) m cap] 32 (0, 0))) := (hF5.block _ (heap_lt HU2.out) (fun e => HR.out _ e rfl)).trans HU2.out; have hS5 : w5.cell? ⟨p, 4, none⟩ = some (.bool t.ask) := ((bas_cells hin5.cells).1.2.2.2.2.1); clear hin5 hF5)))
    | fail
    clear hsee HF2 HU2 hS hS5
    obtain ⟨⟨d0, d1, d2, d3, d4, -⟩, dz⟩ := bas_cells HIN5.out.cells
    obtain ⟨⟨v0, v1, v2, v3, v4, v5, v6, v7⟩, vz⟩ := unit_cells HU5.out
    simp only at d2 d3 d4
    rw [HBB.out] at d2
    obtain rfl : o = false := ho
    have hf := HF.out
    have hf255 : 0 ≤ f ∧ f ≤ 255 := by omega
    have hnx := fun q => Ring.next_any t.last hlast.1 hlast.2 (w5.drewN q)
    have HG : Hid (∀ g, (g = p ∨ T0 g) → g ≠ ga) := hga
    have HLT : Hid (ga < w.heap.size) := hlt
    have HRD : Hid (Reads w (some ⟨ga, off, none⟩) (xs.map (.int .u8))) := hrd
    have HM : Hid (xs.length = m) := hm
    rw [← hf] at hnx
    obtain ⟨la, hla⟩ : ∃ la, la = t.last := ⟨_, rfl⟩
    rw [← hla] at hnx d3
    have dz3 := dz 3
    have dz4 := dz 4
    clear hf hrd hga hlt hm dz vz hla hlast
    go_wp2_with fail
    go_quiet ((go_at_call 144; exact Calls.quiet_of_same (hnx _)))
    go_upto_region 12 with fail
    have hBq : Below w5.heap.size w5 (w5.drewN nq) := below_drewN (Below.refl _ _) nq
    have hin6 := HIN5.out.below hBq
    obtain ⟨hin7, hF7⟩ := BasIn.set (t' := { t with i0 := false, i1 := t.i0, last := f, ask := false }) hin6 ((gb_set (k := 3) (.int .u8 f)).trans (gb_set (k := 4) (.bool false))) (row_set (row_set (bas_row hin6.cells) 3 (.int .u8 f)) 4 (.bool false)) hf255 hin6.again
    have hF7' := HF5.out.trans ((Foot.of_below hBq).trans hF7)
    have hu7 := (hF7.block _ (heap_lt ((hBq.block _ (heap_lt HU5.out)).trans HU5.out)) (fun e => HR.out _ e rfl)).trans ((hBq.block _ (heap_lt HU5.out)).trans HU5.out)
    have hrd7 : Reads (((w5.drewN nq).setCell ⟨p, 3, none⟩ (.int .u8 f)).setCell ⟨p, 4, none⟩ (.bool false)) (some ⟨ga, off, none⟩) (xs.map (.int .u8)) := fun i u hi => by
      obtain ⟨g1, o1, e, hc⟩ := HRD.out i u hi
      refine ⟨g1, o1, e, ?_⟩
      simp only [Option.some.injEq, Addr.mk.injEq, and_true] at e
      obtain ⟨rfl, rfl⟩ := e
      exact (World.cell?_of_block (hF7'.block _ HLT.out (fun e => HG.out _ e rfl))).trans hc
    have hw7 := hF7'.size
    have HIN7 : Hid (BasIn (((w5.drewN nq).setCell ⟨p, 3, none⟩ (.int .u8 f)).setCell ⟨p, 4, none⟩ (.bool false)) p hb B T0 { t with i0 := false, i1 := t.i0, last := f, ask := false } s) := hin7
    have HF7 : Hid (Foot (fun g => g = p ∨ T0 g) (fun g => g = p ∨ T0 g) w (((w5.drewN nq).setCell ⟨p, 3, none⟩ (.int .u8 f)).setCell ⟨p, 4, none⟩ (.bool false))) := hF7'
    generalize (((w5.drewN nq).setCell ⟨p, 3, none⟩ (.int .u8 f)).setCell ⟨p, 4, none⟩ (.bool false)) = W7 at *
    obtain ⟨⟨-, -, -, -, -, -, -, y7⟩, -⟩ := unit_cells hu7
    have hcl := clone_any ga off m cap xs W7 HM.out hl hrd7
    clear hin6 hin7 hF7 hF7' hu7 hBq d0 d1 d2 d3 d4 dz3 dz4 v0 v1 v2 v3 v4 v5 v6 v7 hrd7 hnx
    go_wp2_with (go_at_call 109; refine hcl.mono ?_; rintro e w8 ⟨v8, rfl, hown8, hB8⟩)
    go_ret3
    exact ⟨v8, rfl, owns_lower hown8 hw7, HIN7.out.below hB8, HF7.out.trans (Foot.of_below hB8)⟩
  · obtain rfl : uf = true := hst
    have HBB : Hid (t.bib = true) := hbb
    clear hbb
    obtain ⟨W, hW, hB, hh⟩ := box_unit w #[.int .u8 b, .int .u8 f, .bool ub, .bool true, .int .u8 2, .int .u8 st, .bool wd, .slice (some ⟨ga, off, none⟩) m cap]
    have hs := hB.size
    have hin := h.below hB
    have hlast := h.last
    have HR : Hid (∀ g, (g = p ∨ T0 g) → g ≠ w.heap.size) := fun g hg e => by
      have := (h.at_.lt g hg).2
      omega
    obtain ⟨⟨-, -, c2, -⟩, -⟩ := bas_cells hin.cells
    obtain ⟨⟨-, -, -, u3, -⟩, -⟩ := unit_cells hh
    rw [HBB.out] at c2
    have HIN : Hid (BasIn W p hb B T0 t s) := hin
    have HB : Hid (Below w.heap.size w W) := hB
    have HU : Hid (W.heap[w.heap.size]? = some (.cells #[.int .u8 b, .int .u8 f, .bool ub, .bool true, .int .u8 2, .int .u8 st, .bool wd, .slice (some ⟨ga, off, none⟩) m cap] 32 (0, 0))) := hh
    clear h hin hh hB
    go_enter Tryz.func162, Tryz.ntmps162
    go_upto_region 1 with fail
    rw [← hW]
    clear hW
    go_wp2_with fail
    go_quiet (fail)
    go_upto_region 4 with fail
    have hBq : Below W.heap.size W (W.drewN nq) := below_drewN (Below.refl _ _) nq
    have hBq2 : Below W.heap.size W ((W.drewN nq).drew) := hBq.drew
    have hin2 := HIN.out.below hBq2
    have hh2 := (hBq2.block _ (heap_lt HU.out)).trans HU.out
    have hF2 : Foot (fun g => g = p ∨ T0 g) (fun g => g = p ∨ T0 g) w ((W.drewN nq).drew) := Foot.of_below (HB.out.trans (below_le hBq2 hs))
    have hS : (W.drewN nq).drew.cell? ⟨p, 4, none⟩ = some (.bool t.ask) := (bas_cells hin2.cells).1.2.2.2.2.1
    have hsee := see_in hin2 false o HO.out
    have HF2 : Hid (Foot (fun g => g = p ∨ T0 g) (fun g => g = p ∨ T0 g) w ((W.drewN nq).drew)) := hF2
    have HU2 : Hid ((W.drewN nq).drew.heap[w.heap.size]? = some (.cells #[.int .u8 b, .int .u8 f, .bool ub, .bool true, .int .u8 2, .int .u8 st, .bool wd, .slice (some ⟨ga, off, none⟩) m cap] 32 (0, 0))) := hh2
    generalize (W.drewN nq) = W1 at *
    clear hBq hBq2 hin2 hh2 hF2 c2 u3
    first
    | (go_region_with
        (first
        | (go_at_call 138; refine hsee.mono ?_; rintro e w5 ⟨rfl, hin5, hF5⟩; have HIN5 : Hid (BasIn w5 p hb B T0 { t with i0 := false, i1 := t.i0 } s) := hin5; have HF5 : Hid (Foot (fun g => g = p ∨ T0 g) (fun g => g = p ∨ T0 g) w w5) := HF2.out.trans hF5; have HU5 : Hid (w5.heap[w.heap.size]? = some (.cells #[.int .u8 b, .int .u8 f, .bool ub, .bool true, .int .u8 2, .int .u8 st, .bool wd, .slice (some ⟨ga, off, none⟩) m cap] 32 (0, 0))) := (hF5.block _ (heap_lt HU2.out) (fun e => HR.out _ e rfl)).trans HU2.out; have hS5 : w5.cell? ⟨p, 4, none⟩ = some (.bool t.ask) := ((bas_cells hin5.cells).1.2.2.2.2.1); clear hin5 hF5)))
    | fail
    clear hsee HF2 HU2 hS hS5
    obtain ⟨⟨d0, d1, d2, d3, d4, -⟩, dz⟩ := bas_cells HIN5.out.cells
    obtain ⟨⟨v0, v1, v2, v3, v4, v5, v6, v7⟩, vz⟩ := unit_cells HU5.out
    simp only at d2 d3 d4
    rw [HBB.out] at d2
    obtain rfl : o = false := ho
    have hf := HF.out
    have hf255 : 0 ≤ f ∧ f ≤ 255 := by omega
    have hnx := fun q => Ring.next_any t.last hlast.1 hlast.2 (w5.drewN q)
    have HG : Hid (∀ g, (g = p ∨ T0 g) → g ≠ ga) := hga
    have HLT : Hid (ga < w.heap.size) := hlt
    have HRD : Hid (Reads w (some ⟨ga, off, none⟩) (xs.map (.int .u8))) := hrd
    have HM : Hid (xs.length = m) := hm
    rw [← hf] at hnx
    obtain ⟨la, hla⟩ : ∃ la, la = t.last := ⟨_, rfl⟩
    rw [← hla] at hnx d3
    have dz3 := dz 3
    have dz4 := dz 4
    clear hf hrd hga hlt hm dz vz hla hlast
    go_wp2_with fail
    go_quiet ((go_at_call 144; exact Calls.quiet_of_same (hnx _)))
    go_upto_region 12 with fail
    have hBq : Below w5.heap.size w5 (w5.drewN nq) := below_drewN (Below.refl _ _) nq
    have hin6 := HIN5.out.below hBq
    obtain ⟨hin7, hF7⟩ := BasIn.set (t' := { t with i0 := false, i1 := t.i0, last := f, ask := false }) hin6 ((gb_set (k := 3) (.int .u8 f)).trans (gb_set (k := 4) (.bool false))) (row_set (row_set (bas_row hin6.cells) 3 (.int .u8 f)) 4 (.bool false)) hf255 hin6.again
    have hF7' := HF5.out.trans ((Foot.of_below hBq).trans hF7)
    have hu7 := (hF7.block _ (heap_lt ((hBq.block _ (heap_lt HU5.out)).trans HU5.out)) (fun e => HR.out _ e rfl)).trans ((hBq.block _ (heap_lt HU5.out)).trans HU5.out)
    have hrd7 : Reads (((w5.drewN nq).setCell ⟨p, 3, none⟩ (.int .u8 f)).setCell ⟨p, 4, none⟩ (.bool false)) (some ⟨ga, off, none⟩) (xs.map (.int .u8)) := fun i u hi => by
      obtain ⟨g1, o1, e, hc⟩ := HRD.out i u hi
      refine ⟨g1, o1, e, ?_⟩
      simp only [Option.some.injEq, Addr.mk.injEq, and_true] at e
      obtain ⟨rfl, rfl⟩ := e
      exact (World.cell?_of_block (hF7'.block _ HLT.out (fun e => HG.out _ e rfl))).trans hc
    have hw7 := hF7'.size
    have HIN7 : Hid (BasIn (((w5.drewN nq).setCell ⟨p, 3, none⟩ (.int .u8 f)).setCell ⟨p, 4, none⟩ (.bool false)) p hb B T0 { t with i0 := false, i1 := t.i0, last := f, ask := false } s) := hin7
    have HF7 : Hid (Foot (fun g => g = p ∨ T0 g) (fun g => g = p ∨ T0 g) w (((w5.drewN nq).setCell ⟨p, 3, none⟩ (.int .u8 f)).setCell ⟨p, 4, none⟩ (.bool false))) := hF7'
    generalize (((w5.drewN nq).setCell ⟨p, 3, none⟩ (.int .u8 f)).setCell ⟨p, 4, none⟩ (.bool false)) = W7 at *
    obtain ⟨⟨-, -, -, -, -, -, -, y7⟩, -⟩ := unit_cells hu7
    have hcl := clone_any ga off m cap xs W7 HM.out hl hrd7
    clear hin6 hin7 hF7 hF7' hu7 hBq d0 d1 d2 d3 d4 dz3 dz4 v0 v1 v2 v3 v4 v5 v6 v7 hrd7 hnx
    go_wp2_with (go_at_call 109; refine hcl.mono ?_; rintro e w8 ⟨v8, rfl, hown8, hB8⟩)
    go_ret3
    exact ⟨v8, rfl, owns_lower hown8 hw7, HIN7.out.below hB8, HF7.out.trans (Foot.of_below hB8)⟩

set_option maxRecDepth 100000 in
set_option maxHeartbeats 4000000 in
theorem take_same (p hb B : Nat) (T0 : Nat → Prop) (t : Bs) (s : Hs) (b f k st : Int) (ub uf wd : Bool) (x : Value) (w : World) (h : BasIn w p hb B T0 t s) (hst : uf = t.bib) (hf : t.last = f)  :
    Calls Tryz.prog 162 #[.pointer (some ⟨p, 0, none⟩), .agg #[.int .u8 b, .int .u8 f, .bool ub, .bool uf, .int .u8 k, .int .u8 st, .bool wd, x]] w fun e w' => e = .returned (.tuple #[.slice none 0 0, .bool false, .int .i64 0]) ∧ BasIn w' p hb B T0 { t with i0 := false, i1 := t.i0, ask := false } s ∧ Foot (fun g => g = p ∨ T0 g) (fun g => g = p ∨ T0 g) w w' := by
  obtain ⟨o, ho⟩ : ∃ o, o = (false && (t.i0 || t.i1)) := ⟨_, rfl⟩
  have HO : Hid (o = (false && (t.i0 || t.i1))) := ho
  have HF : Hid (t.last = f) := hf
  clear hf
  rcases (by decide : ∀ b : Bool, b = false ∨ b = true) t.bib with hbb | hbb
  all_goals rw [hbb] at hst
  · obtain rfl : uf = false := hst
    have HBB : Hid (t.bib = false) := hbb
    clear hbb
    by_cases hk : k = 2
    · subst hk
      obtain ⟨W, hW, hB, hh⟩ := box_unit w #[.int .u8 b, .int .u8 f, .bool ub, .bool false, .int .u8 2, .int .u8 st, .bool wd, x]
      have hs := hB.size
      have hin := h.below hB
      have hlast := h.last
      have HR : Hid (∀ g, (g = p ∨ T0 g) → g ≠ w.heap.size) := fun g hg e => by
        have := (h.at_.lt g hg).2
        omega
      obtain ⟨⟨-, -, c2, -⟩, -⟩ := bas_cells hin.cells
      obtain ⟨⟨-, -, -, u3, -⟩, -⟩ := unit_cells hh
      rw [HBB.out] at c2
      have HIN : Hid (BasIn W p hb B T0 t s) := hin
      have HB : Hid (Below w.heap.size w W) := hB
      have HU : Hid (W.heap[w.heap.size]? = some (.cells #[.int .u8 b, .int .u8 f, .bool ub, .bool false, .int .u8 2, .int .u8 st, .bool wd, x] 32 (0, 0))) := hh
      clear h hin hh hB
      go_enter Tryz.func162, Tryz.ntmps162
      go_upto_region 1 with fail
      rw [← hW]
      clear hW
      go_wp2_with fail
      go_quiet (fail)
      go_upto_region 4 with fail
      have hBq : Below W.heap.size W (W.drewN nq) := below_drewN (Below.refl _ _) nq
      have hBq2 : Below W.heap.size W ((W.drewN nq).drew) := hBq.drew
      have hin2 := HIN.out.below hBq2
      have hh2 := (hBq2.block _ (heap_lt HU.out)).trans HU.out
      have hF2 : Foot (fun g => g = p ∨ T0 g) (fun g => g = p ∨ T0 g) w ((W.drewN nq).drew) := Foot.of_below (HB.out.trans (below_le hBq2 hs))
      have hS : (W.drewN nq).drew.cell? ⟨p, 4, none⟩ = some (.bool t.ask) := (bas_cells hin2.cells).1.2.2.2.2.1
      have hsee := see_in hin2 false o HO.out
      have HF2 : Hid (Foot (fun g => g = p ∨ T0 g) (fun g => g = p ∨ T0 g) w ((W.drewN nq).drew)) := hF2
      have HU2 : Hid ((W.drewN nq).drew.heap[w.heap.size]? = some (.cells #[.int .u8 b, .int .u8 f, .bool ub, .bool false, .int .u8 2, .int .u8 st, .bool wd, x] 32 (0, 0))) := hh2
      generalize (W.drewN nq) = W1 at *
      clear hBq hBq2 hin2 hh2 hF2 c2 u3
      first
      | (go_region_with
          (first
          | (go_at_call 138; refine hsee.mono ?_; rintro e w5 ⟨rfl, hin5, hF5⟩; have HIN5 : Hid (BasIn w5 p hb B T0 { t with i0 := false, i1 := t.i0 } s) := hin5; have HF5 : Hid (Foot (fun g => g = p ∨ T0 g) (fun g => g = p ∨ T0 g) w w5) := HF2.out.trans hF5; have HU5 : Hid (w5.heap[w.heap.size]? = some (.cells #[.int .u8 b, .int .u8 f, .bool ub, .bool false, .int .u8 2, .int .u8 st, .bool wd, x] 32 (0, 0))) := (hF5.block _ (heap_lt HU2.out) (fun e => HR.out _ e rfl)).trans HU2.out; have hS5 : w5.cell? ⟨p, 4, none⟩ = some (.bool t.ask) := ((bas_cells hin5.cells).1.2.2.2.2.1); clear hin5 hF5)))
      | fail
      clear hsee HF2 HU2 hS hS5
      obtain ⟨⟨d0, d1, d2, d3, d4, -⟩, dz⟩ := bas_cells HIN5.out.cells
      obtain ⟨⟨v0, v1, v2, v3, v4, v5, v6, v7⟩, vz⟩ := unit_cells HU5.out
      simp only at d2 d3 d4
      rw [HBB.out] at d2
      obtain rfl : o = false := ho
      obtain ⟨rr, hrr⟩ : ∃ rr, rr = (t.last + 1) % 128 := ⟨_, rfl⟩
      have hnx := fun q => Ring.next_any t.last hlast.1 hlast.2 (w5.drewN q)
      rw [← hrr] at hnx
      obtain ⟨la, hla⟩ : ∃ la, la = t.last := ⟨_, rfl⟩
      have hf := HF.out
      have hne : ¬ f = rr := by omega
      rw [← hla] at hnx d3 hf
      have hf2 := hf.symm
      clear hf
      subst hf2
      have hdn : decide (f = rr) = false := decide_eq_false hne
      have dz2 := dz 2
      have dz4 := dz 4
      have HIN6 : Hid (∀ q, BasIn (w5.drewN q) p hb B T0 { t with i0 := false, i1 := t.i0 } s ∧ Foot (fun g => g = p ∨ T0 g) (fun g => g = p ∨ T0 g) w (w5.drewN q)) := fun q => ⟨HIN5.out.below (below_drewN (Below.refl _ _) q), HF5.out.trans (Foot.of_below (below_drewN (Below.refl _ _) q))⟩
      clear dz vz hla hrr hlast
      go_wp2_with fail
      go_quiet ((go_at_call 144; exact Calls.quiet_of_same (hnx _)))
      go_wp2_with fail
      obtain ⟨q1, hq1⟩ : ∃ q, q = nq := ⟨_, rfl⟩
      rw [← hq1]
      clear hq1
      go_quiet (fail)
      obtain ⟨q2, hq2⟩ : ∃ q, q = nq := ⟨_, rfl⟩
      go_wp2
      go_ret3
      subst hq2
      obtain ⟨hin8, hF8⟩ := BasIn.set (t' := { t with i0 := false, i1 := t.i0, ask := false }) (HIN6.out (q1 + q2)).1 (gb_set (k := 4) (.bool false)) (row_set (bas_row (HIN6.out (q1 + q2)).1.cells) 4 (.bool false)) (HIN6.out (q1 + q2)).1.last (HIN6.out (q1 + q2)).1.again
      exact ⟨rfl, hin8, (HIN6.out (q1 + q2)).2.trans hF8⟩
    · obtain ⟨W, hW, hB, hh⟩ := box_unit w #[.int .u8 b, .int .u8 f, .bool ub, .bool false, .int .u8 k, .int .u8 st, .bool wd, x]
      have hs := hB.size
      have hin := h.below hB
      have hlast := h.last
      have HR : Hid (∀ g, (g = p ∨ T0 g) → g ≠ w.heap.size) := fun g hg e => by
        have := (h.at_.lt g hg).2
        omega
      obtain ⟨⟨-, -, c2, -⟩, -⟩ := bas_cells hin.cells
      obtain ⟨⟨-, -, -, u3, -⟩, -⟩ := unit_cells hh
      rw [HBB.out] at c2
      have HIN : Hid (BasIn W p hb B T0 t s) := hin
      have HB : Hid (Below w.heap.size w W) := hB
      have HU : Hid (W.heap[w.heap.size]? = some (.cells #[.int .u8 b, .int .u8 f, .bool ub, .bool false, .int .u8 k, .int .u8 st, .bool wd, x] 32 (0, 0))) := hh
      clear h hin hh hB
      go_enter Tryz.func162, Tryz.ntmps162
      go_upto_region 1 with fail
      rw [← hW]
      clear hW
      go_wp2_with fail
      go_quiet (fail)
      go_upto_region 4 with fail
      have hBq : Below W.heap.size W (W.drewN nq) := below_drewN (Below.refl _ _) nq
      have hBq2 : Below W.heap.size W ((W.drewN nq).drew) := hBq.drew
      have hin2 := HIN.out.below hBq2
      have hh2 := (hBq2.block _ (heap_lt HU.out)).trans HU.out
      have hF2 : Foot (fun g => g = p ∨ T0 g) (fun g => g = p ∨ T0 g) w ((W.drewN nq).drew) := Foot.of_below (HB.out.trans (below_le hBq2 hs))
      have hS : (W.drewN nq).drew.cell? ⟨p, 4, none⟩ = some (.bool t.ask) := (bas_cells hin2.cells).1.2.2.2.2.1
      have hsee := see_in hin2 false o HO.out
      have HF2 : Hid (Foot (fun g => g = p ∨ T0 g) (fun g => g = p ∨ T0 g) w ((W.drewN nq).drew)) := hF2
      have HU2 : Hid ((W.drewN nq).drew.heap[w.heap.size]? = some (.cells #[.int .u8 b, .int .u8 f, .bool ub, .bool false, .int .u8 k, .int .u8 st, .bool wd, x] 32 (0, 0))) := hh2
      generalize (W.drewN nq) = W1 at *
      clear hBq hBq2 hin2 hh2 hF2 c2 u3
      first
      | (go_region_with
          (first
          | (go_at_call 138; refine hsee.mono ?_; rintro e w5 ⟨rfl, hin5, hF5⟩; have HIN5 : Hid (BasIn w5 p hb B T0 { t with i0 := false, i1 := t.i0 } s) := hin5; have HF5 : Hid (Foot (fun g => g = p ∨ T0 g) (fun g => g = p ∨ T0 g) w w5) := HF2.out.trans hF5; have HU5 : Hid (w5.heap[w.heap.size]? = some (.cells #[.int .u8 b, .int .u8 f, .bool ub, .bool false, .int .u8 k, .int .u8 st, .bool wd, x] 32 (0, 0))) := (hF5.block _ (heap_lt HU2.out) (fun e => HR.out _ e rfl)).trans HU2.out; have hS5 : w5.cell? ⟨p, 4, none⟩ = some (.bool t.ask) := ((bas_cells hin5.cells).1.2.2.2.2.1); clear hin5 hF5)))
      | fail
      clear hsee HF2 HU2 hS hS5
      obtain ⟨⟨d0, d1, d2, d3, d4, -⟩, dz⟩ := bas_cells HIN5.out.cells
      obtain ⟨⟨v0, v1, v2, v3, v4, v5, v6, v7⟩, vz⟩ := unit_cells HU5.out
      simp only at d2 d3 d4
      rw [HBB.out] at d2
      obtain rfl : o = false := ho
      obtain ⟨rr, hrr⟩ : ∃ rr, rr = (t.last + 1) % 128 := ⟨_, rfl⟩
      have hnx := fun q => Ring.next_any t.last hlast.1 hlast.2 (w5.drewN q)
      rw [← hrr] at hnx
      obtain ⟨la, hla⟩ : ∃ la, la = t.last := ⟨_, rfl⟩
      have hf := HF.out
      have hne : ¬ f = rr := by omega
      rw [← hla] at hnx d3 hf
      have hf2 := hf.symm
      clear hf
      subst hf2
      have hdk : decide (k = 2) = false := decide_eq_false hk
      have dz2 := dz 2
      have dz4 := dz 4
      have HIN6 : Hid (∀ q, BasIn (w5.drewN q) p hb B T0 { t with i0 := false, i1 := t.i0 } s ∧ Foot (fun g => g = p ∨ T0 g) (fun g => g = p ∨ T0 g) w (w5.drewN q)) := fun q => ⟨HIN5.out.below (below_drewN (Below.refl _ _) q), HF5.out.trans (Foot.of_below (below_drewN (Below.refl _ _) q))⟩
      clear dz vz hla hrr hlast
      go_wp2_with fail
      go_quiet (fail)
      go_wp2_with fail
      obtain ⟨q1, hq1⟩ : ∃ q, q = nq := ⟨_, rfl⟩
      rw [← hq1]
      clear hq1
      go_quiet (fail)
      obtain ⟨q2, hq2⟩ : ∃ q, q = nq := ⟨_, rfl⟩
      go_wp2
      go_ret3
      subst hq2
      obtain ⟨hin8, hF8⟩ := BasIn.set (t' := { t with i0 := false, i1 := t.i0, ask := false }) (HIN6.out (q1 + q2)).1 (gb_set (k := 4) (.bool false)) (row_set (bas_row (HIN6.out (q1 + q2)).1.cells) 4 (.bool false)) (HIN6.out (q1 + q2)).1.last (HIN6.out (q1 + q2)).1.again
      exact ⟨rfl, hin8, (HIN6.out (q1 + q2)).2.trans hF8⟩
  · obtain rfl : uf = true := hst
    have HBB : Hid (t.bib = true) := hbb
    clear hbb
    by_cases hk : k = 2
    · subst hk
      obtain ⟨W, hW, hB, hh⟩ := box_unit w #[.int .u8 b, .int .u8 f, .bool ub, .bool true, .int .u8 2, .int .u8 st, .bool wd, x]
      have hs := hB.size
      have hin := h.below hB
      have hlast := h.last
      have HR : Hid (∀ g, (g = p ∨ T0 g) → g ≠ w.heap.size) := fun g hg e => by
        have := (h.at_.lt g hg).2
        omega
      obtain ⟨⟨-, -, c2, -⟩, -⟩ := bas_cells hin.cells
      obtain ⟨⟨-, -, -, u3, -⟩, -⟩ := unit_cells hh
      rw [HBB.out] at c2
      have HIN : Hid (BasIn W p hb B T0 t s) := hin
      have HB : Hid (Below w.heap.size w W) := hB
      have HU : Hid (W.heap[w.heap.size]? = some (.cells #[.int .u8 b, .int .u8 f, .bool ub, .bool true, .int .u8 2, .int .u8 st, .bool wd, x] 32 (0, 0))) := hh
      clear h hin hh hB
      go_enter Tryz.func162, Tryz.ntmps162
      go_upto_region 1 with fail
      rw [← hW]
      clear hW
      go_wp2_with fail
      go_quiet (fail)
      go_upto_region 4 with fail
      have hBq : Below W.heap.size W (W.drewN nq) := below_drewN (Below.refl _ _) nq
      have hBq2 : Below W.heap.size W ((W.drewN nq).drew) := hBq.drew
      have hin2 := HIN.out.below hBq2
      have hh2 := (hBq2.block _ (heap_lt HU.out)).trans HU.out
      have hF2 : Foot (fun g => g = p ∨ T0 g) (fun g => g = p ∨ T0 g) w ((W.drewN nq).drew) := Foot.of_below (HB.out.trans (below_le hBq2 hs))
      have hS : (W.drewN nq).drew.cell? ⟨p, 4, none⟩ = some (.bool t.ask) := (bas_cells hin2.cells).1.2.2.2.2.1
      have hsee := see_in hin2 false o HO.out
      have HF2 : Hid (Foot (fun g => g = p ∨ T0 g) (fun g => g = p ∨ T0 g) w ((W.drewN nq).drew)) := hF2
      have HU2 : Hid ((W.drewN nq).drew.heap[w.heap.size]? = some (.cells #[.int .u8 b, .int .u8 f, .bool ub, .bool true, .int .u8 2, .int .u8 st, .bool wd, x] 32 (0, 0))) := hh2
      generalize (W.drewN nq) = W1 at *
      clear hBq hBq2 hin2 hh2 hF2 c2 u3
      first
      | (go_region_with
          (first
          | (go_at_call 138; refine hsee.mono ?_; rintro e w5 ⟨rfl, hin5, hF5⟩; have HIN5 : Hid (BasIn w5 p hb B T0 { t with i0 := false, i1 := t.i0 } s) := hin5; have HF5 : Hid (Foot (fun g => g = p ∨ T0 g) (fun g => g = p ∨ T0 g) w w5) := HF2.out.trans hF5; have HU5 : Hid (w5.heap[w.heap.size]? = some (.cells #[.int .u8 b, .int .u8 f, .bool ub, .bool true, .int .u8 2, .int .u8 st, .bool wd, x] 32 (0, 0))) := (hF5.block _ (heap_lt HU2.out) (fun e => HR.out _ e rfl)).trans HU2.out; have hS5 : w5.cell? ⟨p, 4, none⟩ = some (.bool t.ask) := ((bas_cells hin5.cells).1.2.2.2.2.1); clear hin5 hF5)))
      | fail
      clear hsee HF2 HU2 hS hS5
      obtain ⟨⟨d0, d1, d2, d3, d4, -⟩, dz⟩ := bas_cells HIN5.out.cells
      obtain ⟨⟨v0, v1, v2, v3, v4, v5, v6, v7⟩, vz⟩ := unit_cells HU5.out
      simp only at d2 d3 d4
      rw [HBB.out] at d2
      obtain rfl : o = false := ho
      obtain ⟨rr, hrr⟩ : ∃ rr, rr = (t.last + 1) % 128 := ⟨_, rfl⟩
      have hnx := fun q => Ring.next_any t.last hlast.1 hlast.2 (w5.drewN q)
      rw [← hrr] at hnx
      obtain ⟨la, hla⟩ : ∃ la, la = t.last := ⟨_, rfl⟩
      have hf := HF.out
      have hne : ¬ f = rr := by omega
      rw [← hla] at hnx d3 hf
      have hf2 := hf.symm
      clear hf
      subst hf2
      have hdn : decide (f = rr) = false := decide_eq_false hne
      have dz2 := dz 2
      have dz4 := dz 4
      have HIN6 : Hid (∀ q, BasIn (w5.drewN q) p hb B T0 { t with i0 := false, i1 := t.i0 } s ∧ Foot (fun g => g = p ∨ T0 g) (fun g => g = p ∨ T0 g) w (w5.drewN q)) := fun q => ⟨HIN5.out.below (below_drewN (Below.refl _ _) q), HF5.out.trans (Foot.of_below (below_drewN (Below.refl _ _) q))⟩
      clear dz vz hla hrr hlast
      go_wp2_with fail
      go_quiet ((go_at_call 144; exact Calls.quiet_of_same (hnx _)))
      go_wp2_with fail
      obtain ⟨q1, hq1⟩ : ∃ q, q = nq := ⟨_, rfl⟩
      rw [← hq1]
      clear hq1
      go_quiet (fail)
      obtain ⟨q2, hq2⟩ : ∃ q, q = nq := ⟨_, rfl⟩
      go_wp2
      go_ret3
      subst hq2
      obtain ⟨hin8, hF8⟩ := BasIn.set (t' := { t with i0 := false, i1 := t.i0, ask := false }) (HIN6.out (q1 + q2)).1 (gb_set (k := 4) (.bool false)) (row_set (bas_row (HIN6.out (q1 + q2)).1.cells) 4 (.bool false)) (HIN6.out (q1 + q2)).1.last (HIN6.out (q1 + q2)).1.again
      exact ⟨rfl, hin8, (HIN6.out (q1 + q2)).2.trans hF8⟩
    · obtain ⟨W, hW, hB, hh⟩ := box_unit w #[.int .u8 b, .int .u8 f, .bool ub, .bool true, .int .u8 k, .int .u8 st, .bool wd, x]
      have hs := hB.size
      have hin := h.below hB
      have hlast := h.last
      have HR : Hid (∀ g, (g = p ∨ T0 g) → g ≠ w.heap.size) := fun g hg e => by
        have := (h.at_.lt g hg).2
        omega
      obtain ⟨⟨-, -, c2, -⟩, -⟩ := bas_cells hin.cells
      obtain ⟨⟨-, -, -, u3, -⟩, -⟩ := unit_cells hh
      rw [HBB.out] at c2
      have HIN : Hid (BasIn W p hb B T0 t s) := hin
      have HB : Hid (Below w.heap.size w W) := hB
      have HU : Hid (W.heap[w.heap.size]? = some (.cells #[.int .u8 b, .int .u8 f, .bool ub, .bool true, .int .u8 k, .int .u8 st, .bool wd, x] 32 (0, 0))) := hh
      clear h hin hh hB
      go_enter Tryz.func162, Tryz.ntmps162
      go_upto_region 1 with fail
      rw [← hW]
      clear hW
      go_wp2_with fail
      go_quiet (fail)
      go_upto_region 4 with fail
      have hBq : Below W.heap.size W (W.drewN nq) := below_drewN (Below.refl _ _) nq
      have hBq2 : Below W.heap.size W ((W.drewN nq).drew) := hBq.drew
      have hin2 := HIN.out.below hBq2
      have hh2 := (hBq2.block _ (heap_lt HU.out)).trans HU.out
      have hF2 : Foot (fun g => g = p ∨ T0 g) (fun g => g = p ∨ T0 g) w ((W.drewN nq).drew) := Foot.of_below (HB.out.trans (below_le hBq2 hs))
      have hS : (W.drewN nq).drew.cell? ⟨p, 4, none⟩ = some (.bool t.ask) := (bas_cells hin2.cells).1.2.2.2.2.1
      have hsee := see_in hin2 false o HO.out
      have HF2 : Hid (Foot (fun g => g = p ∨ T0 g) (fun g => g = p ∨ T0 g) w ((W.drewN nq).drew)) := hF2
      have HU2 : Hid ((W.drewN nq).drew.heap[w.heap.size]? = some (.cells #[.int .u8 b, .int .u8 f, .bool ub, .bool true, .int .u8 k, .int .u8 st, .bool wd, x] 32 (0, 0))) := hh2
      generalize (W.drewN nq) = W1 at *
      clear hBq hBq2 hin2 hh2 hF2 c2 u3
      first
      | (go_region_with
          (first
          | (go_at_call 138; refine hsee.mono ?_; rintro e w5 ⟨rfl, hin5, hF5⟩; have HIN5 : Hid (BasIn w5 p hb B T0 { t with i0 := false, i1 := t.i0 } s) := hin5; have HF5 : Hid (Foot (fun g => g = p ∨ T0 g) (fun g => g = p ∨ T0 g) w w5) := HF2.out.trans hF5; have HU5 : Hid (w5.heap[w.heap.size]? = some (.cells #[.int .u8 b, .int .u8 f, .bool ub, .bool true, .int .u8 k, .int .u8 st, .bool wd, x] 32 (0, 0))) := (hF5.block _ (heap_lt HU2.out) (fun e => HR.out _ e rfl)).trans HU2.out; have hS5 : w5.cell? ⟨p, 4, none⟩ = some (.bool t.ask) := ((bas_cells hin5.cells).1.2.2.2.2.1); clear hin5 hF5)))
      | fail
      clear hsee HF2 HU2 hS hS5
      obtain ⟨⟨d0, d1, d2, d3, d4, -⟩, dz⟩ := bas_cells HIN5.out.cells
      obtain ⟨⟨v0, v1, v2, v3, v4, v5, v6, v7⟩, vz⟩ := unit_cells HU5.out
      simp only at d2 d3 d4
      rw [HBB.out] at d2
      obtain rfl : o = false := ho
      obtain ⟨rr, hrr⟩ : ∃ rr, rr = (t.last + 1) % 128 := ⟨_, rfl⟩
      have hnx := fun q => Ring.next_any t.last hlast.1 hlast.2 (w5.drewN q)
      rw [← hrr] at hnx
      obtain ⟨la, hla⟩ : ∃ la, la = t.last := ⟨_, rfl⟩
      have hf := HF.out
      have hne : ¬ f = rr := by omega
      rw [← hla] at hnx d3 hf
      have hf2 := hf.symm
      clear hf
      subst hf2
      have hdk : decide (k = 2) = false := decide_eq_false hk
      have dz2 := dz 2
      have dz4 := dz 4
      have HIN6 : Hid (∀ q, BasIn (w5.drewN q) p hb B T0 { t with i0 := false, i1 := t.i0 } s ∧ Foot (fun g => g = p ∨ T0 g) (fun g => g = p ∨ T0 g) w (w5.drewN q)) := fun q => ⟨HIN5.out.below (below_drewN (Below.refl _ _) q), HF5.out.trans (Foot.of_below (below_drewN (Below.refl _ _) q))⟩
      clear dz vz hla hrr hlast
      go_wp2_with fail
      go_quiet (fail)
      go_wp2_with fail
      obtain ⟨q1, hq1⟩ : ∃ q, q = nq := ⟨_, rfl⟩
      rw [← hq1]
      clear hq1
      go_quiet (fail)
      obtain ⟨q2, hq2⟩ : ∃ q, q = nq := ⟨_, rfl⟩
      go_wp2
      go_ret3
      subst hq2
      obtain ⟨hin8, hF8⟩ := BasIn.set (t' := { t with i0 := false, i1 := t.i0, ask := false }) (HIN6.out (q1 + q2)).1 (gb_set (k := 4) (.bool false)) (row_set (bas_row (HIN6.out (q1 + q2)).1.cells) 4 (.bool false)) (HIN6.out (q1 + q2)).1.last (HIN6.out (q1 + q2)).1.again
      exact ⟨rfl, hin8, (HIN6.out (q1 + q2)).2.trans hF8⟩

set_option maxRecDepth 100000 in
set_option maxHeartbeats 4000000 in
theorem take_ask (p hb B : Nat) (T0 : Nat → Prop) (t : Bs) (s : Hs) (b f k st : Int) (ub uf wd : Bool) (x : Value) (w : World) (h : BasIn w p hb B T0 t s) (hst : uf = t.bib) (hf : ¬ f = t.last) (hno : ¬ (k = 2 ∧ f = (t.last + 1) % 128)) :
    Calls Tryz.prog 162 #[.pointer (some ⟨p, 0, none⟩), .agg #[.int .u8 b, .int .u8 f, .bool ub, .bool uf, .int .u8 k, .int .u8 st, .bool wd, x]] w fun e w' => e = .returned (.tuple #[.slice none 0 0, .bool false, .int .i64 0]) ∧ BasIn w' p hb B T0 { t with i0 := false, i1 := t.i0, bib := !t.bib, ask := true } s ∧ Foot (fun g => g = p ∨ T0 g) (fun g => g = p ∨ T0 g) w w' := by
  obtain ⟨o, ho⟩ : ∃ o, o = (false && (t.i0 || t.i1)) := ⟨_, rfl⟩
  have HO : Hid (o = (false && (t.i0 || t.i1))) := ho
  have HF : Hid (¬ f = t.last) := hf
  clear hf
  rcases (by decide : ∀ b : Bool, b = false ∨ b = true) t.bib with hbb | hbb
  all_goals rw [hbb] at hst
  · obtain rfl : uf = false := hst
    have HBB : Hid (t.bib = false) := hbb
    clear hbb
    by_cases hk : k = 2
    · subst hk
      replace hno : ¬ f = (t.last + 1) % 128 := fun e => hno ⟨rfl, e⟩
      have HNO : Hid (¬ f = (t.last + 1) % 128) := hno
      clear hno
      obtain ⟨W, hW, hB, hh⟩ := box_unit w #[.int .u8 b, .int .u8 f, .bool ub, .bool false, .int .u8 2, .int .u8 st, .bool wd, x]
      have hs := hB.size
      have hin := h.below hB
      have hlast := h.last
      have HR : Hid (∀ g, (g = p ∨ T0 g) → g ≠ w.heap.size) := fun g hg e => by
        have := (h.at_.lt g hg).2
        omega
      obtain ⟨⟨-, -, c2, -⟩, -⟩ := bas_cells hin.cells
      obtain ⟨⟨-, -, -, u3, -⟩, -⟩ := unit_cells hh
      rw [HBB.out] at c2
      have HIN : Hid (BasIn W p hb B T0 t s) := hin
      have HB : Hid (Below w.heap.size w W) := hB
      have HU : Hid (W.heap[w.heap.size]? = some (.cells #[.int .u8 b, .int .u8 f, .bool ub, .bool false, .int .u8 2, .int .u8 st, .bool wd, x] 32 (0, 0))) := hh
      clear h hin hh hB
      go_enter Tryz.func162, Tryz.ntmps162
      go_upto_region 1 with fail
      rw [← hW]
      clear hW
      go_wp2_with fail
      go_quiet (fail)
      go_upto_region 4 with fail
      have hBq : Below W.heap.size W (W.drewN nq) := below_drewN (Below.refl _ _) nq
      have hBq2 : Below W.heap.size W ((W.drewN nq).drew) := hBq.drew
      have hin2 := HIN.out.below hBq2
      have hh2 := (hBq2.block _ (heap_lt HU.out)).trans HU.out
      have hF2 : Foot (fun g => g = p ∨ T0 g) (fun g => g = p ∨ T0 g) w ((W.drewN nq).drew) := Foot.of_below (HB.out.trans (below_le hBq2 hs))
      have hS : (W.drewN nq).drew.cell? ⟨p, 4, none⟩ = some (.bool t.ask) := (bas_cells hin2.cells).1.2.2.2.2.1
      have hsee := see_in hin2 false o HO.out
      have HF2 : Hid (Foot (fun g => g = p ∨ T0 g) (fun g => g = p ∨ T0 g) w ((W.drewN nq).drew)) := hF2
      have HU2 : Hid ((W.drewN nq).drew.heap[w.heap.size]? = some (.cells #[.int .u8 b, .int .u8 f, .bool ub, .bool false, .int .u8 2, .int .u8 st, .bool wd, x] 32 (0, 0))) := hh2
      generalize (W.drewN nq) = W1 at *
      clear hBq hBq2 hin2 hh2 hF2 c2 u3
      first
      | (go_region_with
          (first
          | (go_at_call 138; refine hsee.mono ?_; rintro e w5 ⟨rfl, hin5, hF5⟩; have HIN5 : Hid (BasIn w5 p hb B T0 { t with i0 := false, i1 := t.i0 } s) := hin5; have HF5 : Hid (Foot (fun g => g = p ∨ T0 g) (fun g => g = p ∨ T0 g) w w5) := HF2.out.trans hF5; have HU5 : Hid (w5.heap[w.heap.size]? = some (.cells #[.int .u8 b, .int .u8 f, .bool ub, .bool false, .int .u8 2, .int .u8 st, .bool wd, x] 32 (0, 0))) := (hF5.block _ (heap_lt HU2.out) (fun e => HR.out _ e rfl)).trans HU2.out; have hS5 : w5.cell? ⟨p, 4, none⟩ = some (.bool t.ask) := ((bas_cells hin5.cells).1.2.2.2.2.1); clear hin5 hF5)))
      | fail
      clear hsee HF2 HU2 hS hS5
      obtain ⟨⟨d0, d1, d2, d3, d4, -⟩, dz⟩ := bas_cells HIN5.out.cells
      obtain ⟨⟨v0, v1, v2, v3, v4, v5, v6, v7⟩, vz⟩ := unit_cells HU5.out
      simp only at d2 d3 d4
      rw [HBB.out] at d2
      have hno := HNO.out
      obtain rfl : o = false := ho
      obtain ⟨rr, hrr⟩ : ∃ rr, rr = (t.last + 1) % 128 := ⟨_, rfl⟩
      have hnx := fun q => Ring.next_any t.last hlast.1 hlast.2 (w5.drewN q)
      rw [← hrr] at hnx
      obtain ⟨la, hla⟩ : ∃ la, la = t.last := ⟨_, rfl⟩
      have hf := HF.out
      have hne : ¬ f = rr := by rw [hrr]; exact hno
      rw [← hla] at hnx d3 hf
      have hdf : decide (f = la) = false := decide_eq_false hf
      have hdn : decide (f = rr) = false := decide_eq_false hne
      have dz2 := dz 2
      have dz4 := dz 4
      have HIN6 : Hid (∀ q, BasIn (w5.drewN q) p hb B T0 { t with i0 := false, i1 := t.i0 } s ∧ Foot (fun g => g = p ∨ T0 g) (fun g => g = p ∨ T0 g) w (w5.drewN q)) := fun q => ⟨HIN5.out.below (below_drewN (Below.refl _ _) q), HF5.out.trans (Foot.of_below (below_drewN (Below.refl _ _) q))⟩
      clear dz vz hla hrr hlast
      clear hno
      go_wp2_with fail
      go_quiet ((go_at_call 144; exact Calls.quiet_of_same (hnx _)))
      go_wp2_with fail
      obtain ⟨q1, hq1⟩ : ∃ q, q = nq := ⟨_, rfl⟩
      rw [← hq1]
      clear hq1
      go_quiet (fail)
      obtain ⟨q2, hq2⟩ : ∃ q, q = nq := ⟨_, rfl⟩
      go_wp2
      go_ret3
      subst hq2
      obtain ⟨hin8, hF8⟩ := BasIn.set (t' := { t with i0 := false, i1 := t.i0, bib := true, ask := true }) (HIN6.out (q1 + q2)).1 ((gb_set (k := 2) (.bool true)).trans (gb_set (k := 4) (.bool true))) (row_set (row_set (bas_row (HIN6.out (q1 + q2)).1.cells) 2 (.bool true)) 4 (.bool true)) (HIN6.out (q1 + q2)).1.last (HIN6.out (q1 + q2)).1.again
      refine ⟨rfl, ?_, (HIN6.out (q1 + q2)).2.trans hF8⟩
      rw [HBB.out]
      exact hin8
    · clear hno
      obtain ⟨W, hW, hB, hh⟩ := box_unit w #[.int .u8 b, .int .u8 f, .bool ub, .bool false, .int .u8 k, .int .u8 st, .bool wd, x]
      have hs := hB.size
      have hin := h.below hB
      have hlast := h.last
      have HR : Hid (∀ g, (g = p ∨ T0 g) → g ≠ w.heap.size) := fun g hg e => by
        have := (h.at_.lt g hg).2
        omega
      obtain ⟨⟨-, -, c2, -⟩, -⟩ := bas_cells hin.cells
      obtain ⟨⟨-, -, -, u3, -⟩, -⟩ := unit_cells hh
      rw [HBB.out] at c2
      have HIN : Hid (BasIn W p hb B T0 t s) := hin
      have HB : Hid (Below w.heap.size w W) := hB
      have HU : Hid (W.heap[w.heap.size]? = some (.cells #[.int .u8 b, .int .u8 f, .bool ub, .bool false, .int .u8 k, .int .u8 st, .bool wd, x] 32 (0, 0))) := hh
      clear h hin hh hB
      go_enter Tryz.func162, Tryz.ntmps162
      go_upto_region 1 with fail
      rw [← hW]
      clear hW
      go_wp2_with fail
      go_quiet (fail)
      go_upto_region 4 with fail
      have hBq : Below W.heap.size W (W.drewN nq) := below_drewN (Below.refl _ _) nq
      have hBq2 : Below W.heap.size W ((W.drewN nq).drew) := hBq.drew
      have hin2 := HIN.out.below hBq2
      have hh2 := (hBq2.block _ (heap_lt HU.out)).trans HU.out
      have hF2 : Foot (fun g => g = p ∨ T0 g) (fun g => g = p ∨ T0 g) w ((W.drewN nq).drew) := Foot.of_below (HB.out.trans (below_le hBq2 hs))
      have hS : (W.drewN nq).drew.cell? ⟨p, 4, none⟩ = some (.bool t.ask) := (bas_cells hin2.cells).1.2.2.2.2.1
      have hsee := see_in hin2 false o HO.out
      have HF2 : Hid (Foot (fun g => g = p ∨ T0 g) (fun g => g = p ∨ T0 g) w ((W.drewN nq).drew)) := hF2
      have HU2 : Hid ((W.drewN nq).drew.heap[w.heap.size]? = some (.cells #[.int .u8 b, .int .u8 f, .bool ub, .bool false, .int .u8 k, .int .u8 st, .bool wd, x] 32 (0, 0))) := hh2
      generalize (W.drewN nq) = W1 at *
      clear hBq hBq2 hin2 hh2 hF2 c2 u3
      first
      | (go_region_with
          (first
          | (go_at_call 138; refine hsee.mono ?_; rintro e w5 ⟨rfl, hin5, hF5⟩; have HIN5 : Hid (BasIn w5 p hb B T0 { t with i0 := false, i1 := t.i0 } s) := hin5; have HF5 : Hid (Foot (fun g => g = p ∨ T0 g) (fun g => g = p ∨ T0 g) w w5) := HF2.out.trans hF5; have HU5 : Hid (w5.heap[w.heap.size]? = some (.cells #[.int .u8 b, .int .u8 f, .bool ub, .bool false, .int .u8 k, .int .u8 st, .bool wd, x] 32 (0, 0))) := (hF5.block _ (heap_lt HU2.out) (fun e => HR.out _ e rfl)).trans HU2.out; have hS5 : w5.cell? ⟨p, 4, none⟩ = some (.bool t.ask) := ((bas_cells hin5.cells).1.2.2.2.2.1); clear hin5 hF5)))
      | fail
      clear hsee HF2 HU2 hS hS5
      obtain ⟨⟨d0, d1, d2, d3, d4, -⟩, dz⟩ := bas_cells HIN5.out.cells
      obtain ⟨⟨v0, v1, v2, v3, v4, v5, v6, v7⟩, vz⟩ := unit_cells HU5.out
      simp only at d2 d3 d4
      rw [HBB.out] at d2
      obtain rfl : o = false := ho
      obtain ⟨rr, hrr⟩ : ∃ rr, rr = (t.last + 1) % 128 := ⟨_, rfl⟩
      have hnx := fun q => Ring.next_any t.last hlast.1 hlast.2 (w5.drewN q)
      rw [← hrr] at hnx
      obtain ⟨la, hla⟩ : ∃ la, la = t.last := ⟨_, rfl⟩
      have hf := HF.out
      rw [← hla] at hnx d3 hf
      have hdf : decide (f = la) = false := decide_eq_false hf
      have hdk : decide (k = 2) = false := decide_eq_false hk
      have dz2 := dz 2
      have dz4 := dz 4
      have HIN6 : Hid (∀ q, BasIn (w5.drewN q) p hb B T0 { t with i0 := false, i1 := t.i0 } s ∧ Foot (fun g => g = p ∨ T0 g) (fun g => g = p ∨ T0 g) w (w5.drewN q)) := fun q => ⟨HIN5.out.below (below_drewN (Below.refl _ _) q), HF5.out.trans (Foot.of_below (below_drewN (Below.refl _ _) q))⟩
      clear dz vz hla hrr hlast
      go_wp2_with fail
      go_quiet (fail)
      go_wp2_with fail
      obtain ⟨q1, hq1⟩ : ∃ q, q = nq := ⟨_, rfl⟩
      rw [← hq1]
      clear hq1
      go_quiet (fail)
      obtain ⟨q2, hq2⟩ : ∃ q, q = nq := ⟨_, rfl⟩
      go_wp2
      go_ret3
      subst hq2
      obtain ⟨hin8, hF8⟩ := BasIn.set (t' := { t with i0 := false, i1 := t.i0, bib := true, ask := true }) (HIN6.out (q1 + q2)).1 ((gb_set (k := 2) (.bool true)).trans (gb_set (k := 4) (.bool true))) (row_set (row_set (bas_row (HIN6.out (q1 + q2)).1.cells) 2 (.bool true)) 4 (.bool true)) (HIN6.out (q1 + q2)).1.last (HIN6.out (q1 + q2)).1.again
      refine ⟨rfl, ?_, (HIN6.out (q1 + q2)).2.trans hF8⟩
      rw [HBB.out]
      exact hin8
  · obtain rfl : uf = true := hst
    have HBB : Hid (t.bib = true) := hbb
    clear hbb
    by_cases hk : k = 2
    · subst hk
      replace hno : ¬ f = (t.last + 1) % 128 := fun e => hno ⟨rfl, e⟩
      have HNO : Hid (¬ f = (t.last + 1) % 128) := hno
      clear hno
      obtain ⟨W, hW, hB, hh⟩ := box_unit w #[.int .u8 b, .int .u8 f, .bool ub, .bool true, .int .u8 2, .int .u8 st, .bool wd, x]
      have hs := hB.size
      have hin := h.below hB
      have hlast := h.last
      have HR : Hid (∀ g, (g = p ∨ T0 g) → g ≠ w.heap.size) := fun g hg e => by
        have := (h.at_.lt g hg).2
        omega
      obtain ⟨⟨-, -, c2, -⟩, -⟩ := bas_cells hin.cells
      obtain ⟨⟨-, -, -, u3, -⟩, -⟩ := unit_cells hh
      rw [HBB.out] at c2
      have HIN : Hid (BasIn W p hb B T0 t s) := hin
      have HB : Hid (Below w.heap.size w W) := hB
      have HU : Hid (W.heap[w.heap.size]? = some (.cells #[.int .u8 b, .int .u8 f, .bool ub, .bool true, .int .u8 2, .int .u8 st, .bool wd, x] 32 (0, 0))) := hh
      clear h hin hh hB
      go_enter Tryz.func162, Tryz.ntmps162
      go_upto_region 1 with fail
      rw [← hW]
      clear hW
      go_wp2_with fail
      go_quiet (fail)
      go_upto_region 4 with fail
      have hBq : Below W.heap.size W (W.drewN nq) := below_drewN (Below.refl _ _) nq
      have hBq2 : Below W.heap.size W ((W.drewN nq).drew) := hBq.drew
      have hin2 := HIN.out.below hBq2
      have hh2 := (hBq2.block _ (heap_lt HU.out)).trans HU.out
      have hF2 : Foot (fun g => g = p ∨ T0 g) (fun g => g = p ∨ T0 g) w ((W.drewN nq).drew) := Foot.of_below (HB.out.trans (below_le hBq2 hs))
      have hS : (W.drewN nq).drew.cell? ⟨p, 4, none⟩ = some (.bool t.ask) := (bas_cells hin2.cells).1.2.2.2.2.1
      have hsee := see_in hin2 false o HO.out
      have HF2 : Hid (Foot (fun g => g = p ∨ T0 g) (fun g => g = p ∨ T0 g) w ((W.drewN nq).drew)) := hF2
      have HU2 : Hid ((W.drewN nq).drew.heap[w.heap.size]? = some (.cells #[.int .u8 b, .int .u8 f, .bool ub, .bool true, .int .u8 2, .int .u8 st, .bool wd, x] 32 (0, 0))) := hh2
      generalize (W.drewN nq) = W1 at *
      clear hBq hBq2 hin2 hh2 hF2 c2 u3
      first
      | (go_region_with
          (first
          | (go_at_call 138; refine hsee.mono ?_; rintro e w5 ⟨rfl, hin5, hF5⟩; have HIN5 : Hid (BasIn w5 p hb B T0 { t with i0 := false, i1 := t.i0 } s) := hin5; have HF5 : Hid (Foot (fun g => g = p ∨ T0 g) (fun g => g = p ∨ T0 g) w w5) := HF2.out.trans hF5; have HU5 : Hid (w5.heap[w.heap.size]? = some (.cells #[.int .u8 b, .int .u8 f, .bool ub, .bool true, .int .u8 2, .int .u8 st, .bool wd, x] 32 (0, 0))) := (hF5.block _ (heap_lt HU2.out) (fun e => HR.out _ e rfl)).trans HU2.out; have hS5 : w5.cell? ⟨p, 4, none⟩ = some (.bool t.ask) := ((bas_cells hin5.cells).1.2.2.2.2.1); clear hin5 hF5)))
      | fail
      clear hsee HF2 HU2 hS hS5
      obtain ⟨⟨d0, d1, d2, d3, d4, -⟩, dz⟩ := bas_cells HIN5.out.cells
      obtain ⟨⟨v0, v1, v2, v3, v4, v5, v6, v7⟩, vz⟩ := unit_cells HU5.out
      simp only at d2 d3 d4
      rw [HBB.out] at d2
      have hno := HNO.out
      obtain rfl : o = false := ho
      obtain ⟨rr, hrr⟩ : ∃ rr, rr = (t.last + 1) % 128 := ⟨_, rfl⟩
      have hnx := fun q => Ring.next_any t.last hlast.1 hlast.2 (w5.drewN q)
      rw [← hrr] at hnx
      obtain ⟨la, hla⟩ : ∃ la, la = t.last := ⟨_, rfl⟩
      have hf := HF.out
      have hne : ¬ f = rr := by rw [hrr]; exact hno
      rw [← hla] at hnx d3 hf
      have hdf : decide (f = la) = false := decide_eq_false hf
      have hdn : decide (f = rr) = false := decide_eq_false hne
      have dz2 := dz 2
      have dz4 := dz 4
      have HIN6 : Hid (∀ q, BasIn (w5.drewN q) p hb B T0 { t with i0 := false, i1 := t.i0 } s ∧ Foot (fun g => g = p ∨ T0 g) (fun g => g = p ∨ T0 g) w (w5.drewN q)) := fun q => ⟨HIN5.out.below (below_drewN (Below.refl _ _) q), HF5.out.trans (Foot.of_below (below_drewN (Below.refl _ _) q))⟩
      clear dz vz hla hrr hlast
      clear hno
      go_wp2_with fail
      go_quiet ((go_at_call 144; exact Calls.quiet_of_same (hnx _)))
      go_wp2_with fail
      obtain ⟨q1, hq1⟩ : ∃ q, q = nq := ⟨_, rfl⟩
      rw [← hq1]
      clear hq1
      go_quiet (fail)
      obtain ⟨q2, hq2⟩ : ∃ q, q = nq := ⟨_, rfl⟩
      go_wp2
      go_ret3
      subst hq2
      obtain ⟨hin8, hF8⟩ := BasIn.set (t' := { t with i0 := false, i1 := t.i0, bib := false, ask := true }) (HIN6.out (q1 + q2)).1 ((gb_set (k := 2) (.bool false)).trans (gb_set (k := 4) (.bool true))) (row_set (row_set (bas_row (HIN6.out (q1 + q2)).1.cells) 2 (.bool false)) 4 (.bool true)) (HIN6.out (q1 + q2)).1.last (HIN6.out (q1 + q2)).1.again
      refine ⟨rfl, ?_, (HIN6.out (q1 + q2)).2.trans hF8⟩
      rw [HBB.out]
      exact hin8
    · clear hno
      obtain ⟨W, hW, hB, hh⟩ := box_unit w #[.int .u8 b, .int .u8 f, .bool ub, .bool true, .int .u8 k, .int .u8 st, .bool wd, x]
      have hs := hB.size
      have hin := h.below hB
      have hlast := h.last
      have HR : Hid (∀ g, (g = p ∨ T0 g) → g ≠ w.heap.size) := fun g hg e => by
        have := (h.at_.lt g hg).2
        omega
      obtain ⟨⟨-, -, c2, -⟩, -⟩ := bas_cells hin.cells
      obtain ⟨⟨-, -, -, u3, -⟩, -⟩ := unit_cells hh
      rw [HBB.out] at c2
      have HIN : Hid (BasIn W p hb B T0 t s) := hin
      have HB : Hid (Below w.heap.size w W) := hB
      have HU : Hid (W.heap[w.heap.size]? = some (.cells #[.int .u8 b, .int .u8 f, .bool ub, .bool true, .int .u8 k, .int .u8 st, .bool wd, x] 32 (0, 0))) := hh
      clear h hin hh hB
      go_enter Tryz.func162, Tryz.ntmps162
      go_upto_region 1 with fail
      rw [← hW]
      clear hW
      go_wp2_with fail
      go_quiet (fail)
      go_upto_region 4 with fail
      have hBq : Below W.heap.size W (W.drewN nq) := below_drewN (Below.refl _ _) nq
      have hBq2 : Below W.heap.size W ((W.drewN nq).drew) := hBq.drew
      have hin2 := HIN.out.below hBq2
      have hh2 := (hBq2.block _ (heap_lt HU.out)).trans HU.out
      have hF2 : Foot (fun g => g = p ∨ T0 g) (fun g => g = p ∨ T0 g) w ((W.drewN nq).drew) := Foot.of_below (HB.out.trans (below_le hBq2 hs))
      have hS : (W.drewN nq).drew.cell? ⟨p, 4, none⟩ = some (.bool t.ask) := (bas_cells hin2.cells).1.2.2.2.2.1
      have hsee := see_in hin2 false o HO.out
      have HF2 : Hid (Foot (fun g => g = p ∨ T0 g) (fun g => g = p ∨ T0 g) w ((W.drewN nq).drew)) := hF2
      have HU2 : Hid ((W.drewN nq).drew.heap[w.heap.size]? = some (.cells #[.int .u8 b, .int .u8 f, .bool ub, .bool true, .int .u8 k, .int .u8 st, .bool wd, x] 32 (0, 0))) := hh2
      generalize (W.drewN nq) = W1 at *
      clear hBq hBq2 hin2 hh2 hF2 c2 u3
      first
      | (go_region_with
          (first
          | (go_at_call 138; refine hsee.mono ?_; rintro e w5 ⟨rfl, hin5, hF5⟩; have HIN5 : Hid (BasIn w5 p hb B T0 { t with i0 := false, i1 := t.i0 } s) := hin5; have HF5 : Hid (Foot (fun g => g = p ∨ T0 g) (fun g => g = p ∨ T0 g) w w5) := HF2.out.trans hF5; have HU5 : Hid (w5.heap[w.heap.size]? = some (.cells #[.int .u8 b, .int .u8 f, .bool ub, .bool true, .int .u8 k, .int .u8 st, .bool wd, x] 32 (0, 0))) := (hF5.block _ (heap_lt HU2.out) (fun e => HR.out _ e rfl)).trans HU2.out; have hS5 : w5.cell? ⟨p, 4, none⟩ = some (.bool t.ask) := ((bas_cells hin5.cells).1.2.2.2.2.1); clear hin5 hF5)))
      | fail
      clear hsee HF2 HU2 hS hS5
      obtain ⟨⟨d0, d1, d2, d3, d4, -⟩, dz⟩ := bas_cells HIN5.out.cells
      obtain ⟨⟨v0, v1, v2, v3, v4, v5, v6, v7⟩, vz⟩ := unit_cells HU5.out
      simp only at d2 d3 d4
      rw [HBB.out] at d2
      obtain rfl : o = false := ho
      obtain ⟨rr, hrr⟩ : ∃ rr, rr = (t.last + 1) % 128 := ⟨_, rfl⟩
      have hnx := fun q => Ring.next_any t.last hlast.1 hlast.2 (w5.drewN q)
      rw [← hrr] at hnx
      obtain ⟨la, hla⟩ : ∃ la, la = t.last := ⟨_, rfl⟩
      have hf := HF.out
      rw [← hla] at hnx d3 hf
      have hdf : decide (f = la) = false := decide_eq_false hf
      have hdk : decide (k = 2) = false := decide_eq_false hk
      have dz2 := dz 2
      have dz4 := dz 4
      have HIN6 : Hid (∀ q, BasIn (w5.drewN q) p hb B T0 { t with i0 := false, i1 := t.i0 } s ∧ Foot (fun g => g = p ∨ T0 g) (fun g => g = p ∨ T0 g) w (w5.drewN q)) := fun q => ⟨HIN5.out.below (below_drewN (Below.refl _ _) q), HF5.out.trans (Foot.of_below (below_drewN (Below.refl _ _) q))⟩
      clear dz vz hla hrr hlast
      go_wp2_with fail
      go_quiet (fail)
      go_wp2_with fail
      obtain ⟨q1, hq1⟩ : ∃ q, q = nq := ⟨_, rfl⟩
      rw [← hq1]
      clear hq1
      go_quiet (fail)
      obtain ⟨q2, hq2⟩ : ∃ q, q = nq := ⟨_, rfl⟩
      go_wp2
      go_ret3
      subst hq2
      obtain ⟨hin8, hF8⟩ := BasIn.set (t' := { t with i0 := false, i1 := t.i0, bib := false, ask := true }) (HIN6.out (q1 + q2)).1 ((gb_set (k := 2) (.bool false)).trans (gb_set (k := 4) (.bool true))) (row_set (row_set (bas_row (HIN6.out (q1 + q2)).1.cells) 2 (.bool false)) 4 (.bool true)) (HIN6.out (q1 + q2)).1.last (HIN6.out (q1 + q2)).1.again
      refine ⟨rfl, ?_, (HIN6.out (q1 + q2)).2.trans hF8⟩
      rw [HBB.out]
      exact hin8

end Go.Proofs.YtldjglmelbkngaaGreat.Tape
