/- A way's Take of any unit: with any information, with none. -/
import Derived.Test.YtldjglmelbkngaaGreatWay6
import Derived.Deep.QuietTactic
import Derived.BigQuiet
namespace Go.Proofs.YtldjglmelbkngaaGreat.Tape
open Go.ChangeShapes Go.WideShapes Go.ChangeAt Go.RowKit
set_option linter.unusedVariables false


/-- bytes.Clone of octets, nil or not. -/
theorem clone_reads2 (ao : Option Addr) (n cap : Nat) (xs : List Int) (w : World) (hn : xs.length = n) (hl : n ≤ 1000) (hc : ao = none → cap = 0) (h : Reads w ao (xs.map (.int .u8))) :
    Calls Tryz.prog 109 #[.slice ao n cap] w fun e w' => ∃ vo vc, e = .returned (.slice vo n vc) ∧ Reads w' vo (xs.map (.int .u8)) ∧ Below w.heap.size w w' ∧ Lies w' w.heap.size vo := by
  cases ao with
  | none =>
    have h0 : xs = [] := by simpa using h.none_nil
    subst h0
    obtain rfl : 0 = n := hn
    obtain rfl : cap = 0 := hc rfl
    refine (clone_nil w).mono ?_
    rintro e w' ⟨rfl, rfl⟩
    exact ⟨none, 0, rfl, Reads.nil _ _, Below.refl _ _, Lies.none _ _⟩
  | some ad =>
    refine (clone_some ad n cap xs w hn hl h).mono ?_
    rintro e w' ⟨v, rfl, hown, hB⟩
    obtain ⟨vo, vc, rfl, -, hr, -⟩ := owns_form hown
    exact ⟨vo, vc, rfl, hr, hB, owns_lies hown⟩

set_option maxRecDepth 100000 in
set_option maxHeartbeats 4000000 in
theorem take_in0 (p hb B : Nat) (T0 : Nat → Prop) (t : Bs) (s : Hs) (b f st : Int) (ub uf wd : Bool) (ao : Option Addr) (cap : Nat) (hc : ao = none → cap = 0) (w : World) (h : BasIn w p hb B T0 t s) (hst : uf = t.bib) (hf : f = (t.last + 1) % 128) :
    Calls Tryz.prog 162 #[.pointer (some ⟨p, 0, none⟩), .agg #[.int .u8 b, .int .u8 f, .bool ub, .bool uf, .int .u8 2, .int .u8 st, .bool wd, .slice ao 0 cap]] w fun e w' => ∃ vo vc, e = .returned (.tuple #[.slice vo 0 vc, .bool true, .int .i64 0]) ∧ Lies w' w.heap.size vo ∧ BasIn w' p hb B T0 { t with i0 := false, i1 := t.i0, last := f, ask := false } s ∧ Foot (fun g => g = p ∨ T0 g) (fun g => g = p ∨ T0 g) w w' := by
  obtain ⟨o, ho⟩ : ∃ o, o = (false && (t.i0 || t.i1)) := ⟨_, rfl⟩
  have HO : Hid (o = (false && (t.i0 || t.i1))) := ho
  have HF : Hid (f = (t.last + 1) % 128) := hf
  clear hf
  rcases (by decide : ∀ b : Bool, b = false ∨ b = true) t.bib with hbb | hbb
  all_goals rw [hbb] at hst
  · obtain rfl : uf = false := hst
    have HBB : Hid (t.bib = false) := hbb
    clear hbb
    obtain ⟨W, hW, hB, hh⟩ := box_unit w #[.int .u8 b, .int .u8 f, .bool ub, .bool false, .int .u8 2, .int .u8 st, .bool wd, .slice ao 0 cap]
    have hs := hB.size
    have hin := h.below hB
    have hlast := h.last
    have HR : Hid (∀ g, (g = p ∨ T0 g) → g ≠ w.heap.size) := fun g hg e => by
      have := (h.at_.lt g hg).2
      omega
    obtain ⟨⟨-, -, c2, -⟩, -⟩ := bas_cells hin.cells
    obtain ⟨⟨-, -, -, u3, -⟩, -⟩ := unit_cells hh
    rw [HBB.out] at c2
    have HIN : Hid (BasIn W p hb B T0 t s) := hin
    have HB : Hid (Below w.heap.size w W) := hB
    have HU : Hid (W.heap[w.heap.size]? = some (.cells #[.int .u8 b, .int .u8 f, .bool ub, .bool false, .int .u8 2, .int .u8 st, .bool wd, .slice ao 0 cap] 32 (0, 0))) := hh
    clear h hin hh hB
    go_enter Tryz.func162, Tryz.ntmps162
    go_upto_region 1 with fail
    rw [← hW]
    clear hW
    go_wp2_with fail
    go_quiet (fail)
    go_upto_region 4 with fail
    have hBq : Below W.heap.size W (W.drewN nq) := below_drewN (Below.refl _ _) nq
    have hBq2 : Below W.heap.size W ((W.drewN nq).drew) := hBq.drew
    have hin2 := HIN.out.below hBq2
    have hh2 := (hBq2.block _ (heap_lt HU.out)).trans HU.out
    have hF2 : Foot (fun g => g = p ∨ T0 g) (fun g => g = p ∨ T0 g) w ((W.drewN nq).drew) := Foot.of_below (HB.out.trans (below_le hBq2 hs))
    have hS : (W.drewN nq).drew.cell? ⟨p, 4, none⟩ = some (.bool t.ask) := (bas_cells hin2.cells).1.2.2.2.2.1
    have hsee := see_in hin2 false o HO.out
    have HF2 : Hid (Foot (fun g => g = p ∨ T0 g) (fun g => g = p ∨ T0 g) w ((W.drewN nq).drew)) := hF2
    have HU2 : Hid ((W.drewN nq).drew.heap[w.heap.size]? = some (.cells #[.int .u8 b, .int .u8 f, .bool ub, .bool false, .int .u8 2, .int .u8 st, .bool wd, .slice ao 0 cap] 32 (0, 0))) := hh2
    generalize (W.drewN nq) = W1 at *
    clear hBq hBq2 hin2 hh2 hF2 c2 u3
    first
    | (go_region_with
        (first
        | (go_at_call 138; refine hsee.mono ?_; rintro e w5 ⟨rfl, hin5, hF5⟩; have HIN5 : Hid (BasIn w5 p hb B T0 { t with i0 := false, i1 := t.i0 } s) := hin5; have HF5 : Hid (Foot (fun g => g = p ∨ T0 g) (fun g => g = p ∨ T0 g) w w5) := HF2.out.trans hF5; have HU5 : Hid (w5.heap[w.heap.size]? = some (.cells #[.int .u8 b, .int .u8 f, .bool ub, .bool false, .int .u8 2, .int .u8 st, .bool wd, .slice ao 0 cap] 32 (0, 0))) := (hF5.block _ (heap_lt HU2.out) (fun e => HR.out _ e rfl)).trans HU2.out; have hS5 : w5.cell? ⟨p, 4, none⟩ = some (.bool t.ask) := ((bas_cells hin5.cells).1.2.2.2.2.1); clear hin5 hF5)))
    | fail
    clear hsee HF2 HU2 hS hS5
    obtain ⟨⟨d0, d1, d2, d3, d4, -⟩, dz⟩ := bas_cells HIN5.out.cells
    obtain ⟨⟨v0, v1, v2, v3, v4, v5, v6, v7⟩, vz⟩ := unit_cells HU5.out
    simp only at d2 d3 d4
    rw [HBB.out] at d2
    obtain rfl : o = false := ho
    have hf := HF.out
    have hf255 : 0 ≤ f ∧ f ≤ 255 := by omega
    have hnx := fun q => Ring.next_any t.last hlast.1 hlast.2 (w5.drewN q)
    rw [← hf] at hnx
    obtain ⟨la, hla⟩ : ∃ la, la = t.last := ⟨_, rfl⟩
    rw [← hla] at hnx d3
    have dz3 := dz 3
    have dz4 := dz 4
    clear hf dz vz hla hlast
    go_wp2_with fail
    go_quiet ((go_at_call 144; exact Calls.quiet_of_same (hnx _)))
    go_upto_region 12 with fail
    have hBq : Below w5.heap.size w5 (w5.drewN nq) := below_drewN (Below.refl _ _) nq
    have hin6 := HIN5.out.below hBq
    obtain ⟨hin7, hF7⟩ := BasIn.set (t' := { t with i0 := false, i1 := t.i0, last := f, ask := false }) hin6 ((gb_set (k := 3) (.int .u8 f)).trans (gb_set (k := 4) (.bool false))) (row_set (row_set (bas_row hin6.cells) 3 (.int .u8 f)) 4 (.bool false)) hf255 hin6.again
    have hF7' := HF5.out.trans ((Foot.of_below hBq).trans hF7)
    have hu7 := (hF7.block _ (heap_lt ((hBq.block _ (heap_lt HU5.out)).trans HU5.out)) (fun e => HR.out _ e rfl)).trans ((hBq.block _ (heap_lt HU5.out)).trans HU5.out)
    have hw7 := hF7'.size
    have HIN7 : Hid (BasIn (((w5.drewN nq).setCell ⟨p, 3, none⟩ (.int .u8 f)).setCell ⟨p, 4, none⟩ (.bool false)) p hb B T0 { t with i0 := false, i1 := t.i0, last := f, ask := false } s) := hin7
    have HF7 : Hid (Foot (fun g => g = p ∨ T0 g) (fun g => g = p ∨ T0 g) w (((w5.drewN nq).setCell ⟨p, 3, none⟩ (.int .u8 f)).setCell ⟨p, 4, none⟩ (.bool false))) := hF7'
    generalize (((w5.drewN nq).setCell ⟨p, 3, none⟩ (.int .u8 f)).setCell ⟨p, 4, none⟩ (.bool false)) = W7 at *
    obtain ⟨⟨-, -, -, -, -, -, -, y7⟩, -⟩ := unit_cells hu7
    have hcl := clone_reads2 ao 0 cap [] W7 rfl (by omega) hc (Reads.nil _ _)
    clear hin6 hin7 hF7 hF7' hu7 hBq d0 d1 d2 d3 d4 dz3 dz4 v0 v1 v2 v3 v4 v5 v6 v7 hnx
    go_wp2_with (go_at_call 109; refine hcl.mono ?_; rintro e w8 ⟨vo, vc, rfl, -, hB8, hl8⟩)
    go_ret3
    exact ⟨vo, vc, rfl, hl8.mono HF7.out.size (Nat.le_refl _), HIN7.out.below hB8, HF7.out.trans (Foot.of_below hB8)⟩
  · obtain rfl : uf = true := hst
    have HBB : Hid (t.bib = true) := hbb
    clear hbb
    obtain ⟨W, hW, hB, hh⟩ := box_unit w #[.int .u8 b, .int .u8 f, .bool ub, .bool true, .int .u8 2, .int .u8 st, .bool wd, .slice ao 0 cap]
    have hs := hB.size
    have hin := h.below hB
    have hlast := h.last
    have HR : Hid (∀ g, (g = p ∨ T0 g) → g ≠ w.heap.size) := fun g hg e => by
      have := (h.at_.lt g hg).2
      omega
    obtain ⟨⟨-, -, c2, -⟩, -⟩ := bas_cells hin.cells
    obtain ⟨⟨-, -, -, u3, -⟩, -⟩ := unit_cells hh
    rw [HBB.out] at c2
    have HIN : Hid (BasIn W p hb B T0 t s) := hin
    have HB : Hid (Below w.heap.size w W) := hB
    have HU : Hid (W.heap[w.heap.size]? = some (.cells #[.int .u8 b, .int .u8 f, .bool ub, .bool true, .int .u8 2, .int .u8 st, .bool wd, .slice ao 0 cap] 32 (0, 0))) := hh
    clear h hin hh hB
    go_enter Tryz.func162, Tryz.ntmps162
    go_upto_region 1 with fail
    rw [← hW]
    clear hW
    go_wp2_with fail
    go_quiet (fail)
    go_upto_region 4 with fail
    have hBq : Below W.heap.size W (W.drewN nq) := below_drewN (Below.refl _ _) nq
    have hBq2 : Below W.heap.size W ((W.drewN nq).drew) := hBq.drew
    have hin2 := HIN.out.below hBq2
    have hh2 := (hBq2.block _ (heap_lt HU.out)).trans HU.out
    have hF2 : Foot (fun g => g = p ∨ T0 g) (fun g => g = p ∨ T0 g) w ((W.drewN nq).drew) := Foot.of_below (HB.out.trans (below_le hBq2 hs))
    have hS : (W.drewN nq).drew.cell? ⟨p, 4, none⟩ = some (.bool t.ask) := (bas_cells hin2.cells).1.2.2.2.2.1
    have hsee := see_in hin2 false o HO.out
    have HF2 : Hid (Foot (fun g => g = p ∨ T0 g) (fun g => g = p ∨ T0 g) w ((W.drewN nq).drew)) := hF2
    have HU2 : Hid ((W.drewN nq).drew.heap[w.heap.size]? = some (.cells #[.int .u8 b, .int .u8 f, .bool ub, .bool true, .int .u8 2, .int .u8 st, .bool wd, .slice ao 0 cap] 32 (0, 0))) := hh2
    generalize (W.drewN nq) = W1 at *
    clear hBq hBq2 hin2 hh2 hF2 c2 u3
    first
    | (go_region_with
        (first
        | (go_at_call 138; refine hsee.mono ?_; rintro e w5 ⟨rfl, hin5, hF5⟩; have HIN5 : Hid (BasIn w5 p hb B T0 { t with i0 := false, i1 := t.i0 } s) := hin5; have HF5 : Hid (Foot (fun g => g = p ∨ T0 g) (fun g => g = p ∨ T0 g) w w5) := HF2.out.trans hF5; have HU5 : Hid (w5.heap[w.heap.size]? = some (.cells #[.int .u8 b, .int .u8 f, .bool ub, .bool true, .int .u8 2, .int .u8 st, .bool wd, .slice ao 0 cap] 32 (0, 0))) := (hF5.block _ (heap_lt HU2.out) (fun e => HR.out _ e rfl)).trans HU2.out; have hS5 : w5.cell? ⟨p, 4, none⟩ = some (.bool t.ask) := ((bas_cells hin5.cells).1.2.2.2.2.1); clear hin5 hF5)))
    | fail
    clear hsee HF2 HU2 hS hS5
    obtain ⟨⟨d0, d1, d2, d3, d4, -⟩, dz⟩ := bas_cells HIN5.out.cells
    obtain ⟨⟨v0, v1, v2, v3, v4, v5, v6, v7⟩, vz⟩ := unit_cells HU5.out
    simp only at d2 d3 d4
    rw [HBB.out] at d2
    obtain rfl : o = false := ho
    have hf := HF.out
    have hf255 : 0 ≤ f ∧ f ≤ 255 := by omega
    have hnx := fun q => Ring.next_any t.last hlast.1 hlast.2 (w5.drewN q)
    rw [← hf] at hnx
    obtain ⟨la, hla⟩ : ∃ la, la = t.last := ⟨_, rfl⟩
    rw [← hla] at hnx d3
    have dz3 := dz 3
    have dz4 := dz 4
    clear hf dz vz hla hlast
    go_wp2_with fail
    go_quiet ((go_at_call 144; exact Calls.quiet_of_same (hnx _)))
    go_upto_region 12 with fail
    have hBq : Below w5.heap.size w5 (w5.drewN nq) := below_drewN (Below.refl _ _) nq
    have hin6 := HIN5.out.below hBq
    obtain ⟨hin7, hF7⟩ := BasIn.set (t' := { t with i0 := false, i1 := t.i0, last := f, ask := false }) hin6 ((gb_set (k := 3) (.int .u8 f)).trans (gb_set (k := 4) (.bool false))) (row_set (row_set (bas_row hin6.cells) 3 (.int .u8 f)) 4 (.bool false)) hf255 hin6.again
    have hF7' := HF5.out.trans ((Foot.of_below hBq).trans hF7)
    have hu7 := (hF7.block _ (heap_lt ((hBq.block _ (heap_lt HU5.out)).trans HU5.out)) (fun e => HR.out _ e rfl)).trans ((hBq.block _ (heap_lt HU5.out)).trans HU5.out)
    have hw7 := hF7'.size
    have HIN7 : Hid (BasIn (((w5.drewN nq).setCell ⟨p, 3, none⟩ (.int .u8 f)).setCell ⟨p, 4, none⟩ (.bool false)) p hb B T0 { t with i0 := false, i1 := t.i0, last := f, ask := false } s) := hin7
    have HF7 : Hid (Foot (fun g => g = p ∨ T0 g) (fun g => g = p ∨ T0 g) w (((w5.drewN nq).setCell ⟨p, 3, none⟩ (.int .u8 f)).setCell ⟨p, 4, none⟩ (.bool false))) := hF7'
    generalize (((w5.drewN nq).setCell ⟨p, 3, none⟩ (.int .u8 f)).setCell ⟨p, 4, none⟩ (.bool false)) = W7 at *
    obtain ⟨⟨-, -, -, -, -, -, -, y7⟩, -⟩ := unit_cells hu7
    have hcl := clone_reads2 ao 0 cap [] W7 rfl (by omega) hc (Reads.nil _ _)
    clear hin6 hin7 hF7 hF7' hu7 hBq d0 d1 d2 d3 d4 dz3 dz4 v0 v1 v2 v3 v4 v5 v6 v7 hnx
    go_wp2_with (go_at_call 109; refine hcl.mono ?_; rintro e w8 ⟨vo, vc, rfl, -, hB8, hl8⟩)
    go_ret3
    exact ⟨vo, vc, rfl, hl8.mono HF7.out.size (Nat.le_refl _), HIN7.out.below hB8, HF7.out.trans (Foot.of_below hB8)⟩

set_option maxRecDepth 100000 in
set_option maxHeartbeats 2000000 in
theorem take_yes2 (p hb B : Nat) (T0 : Nat → Prop) (t : Cs) (s : Hs) (b f st : Int) (ub uf wd : Bool) (ao : Option Addr) (m cap : Nat) (xs : List Int) (w : World) (h : CycIn w p hb B T0 t s) (hf : f = (t.last + 1) % 128) (hm : xs.length = m) (hl : m ≤ 1000) (hc : ao = none → cap = 0) (hrd : Reads w ao (xs.map (.int .u8)))
    (hap : ∀ ad, ao = some ad → 0 < m → ad.block ≠ p) :
    Calls Tryz.prog 135 #[.pointer (some ⟨p, 0, none⟩), .agg #[.int .u8 b, .int .u8 f, .bool ub, .bool uf, .int .u8 2, .int .u8 st, .bool wd, .slice ao m cap]] w fun e w' => ∃ vo vc, e = .returned (.tuple #[.slice vo m vc, .bool true, .int .i64 0]) ∧ Reads w' vo (xs.map (.int .u8)) ∧ Lies w' w.heap.size vo ∧ CycIn w' p hb B T0 { t with last := f } s ∧ Foot (fun g => g = p ∨ T0 g) (fun g => g = p ∨ T0 g) w w' := by
  obtain ⟨W, hW, hB, hh⟩ := box_unit w #[.int .u8 b, .int .u8 f, .bool ub, .bool uf, .int .u8 2, .int .u8 st, .bool wd, .slice ao m cap]
  have hs := hB.size
  have hin := h.below hB
  have hlast := h.last
  have HR : Hid (∀ g, (g = p ∨ T0 g) → g ≠ w.heap.size) := fun g hg e => by
    have := (h.at_.lt g hg).2
    omega
  obtain ⟨⟨-, -, -, c3, -⟩, -⟩ := cyc_cells hin.cells
  obtain ⟨⟨-, u1, -, -, u4, -⟩, -⟩ := unit_cells hh
  have hnx := fun q => Ring.next_any t.last hlast.1 hlast.2 (W.drewN q)
  rw [← hf] at hnx
  have HB : Hid (Below w.heap.size w W) := hB
  have HIN : Hid (CycIn W p hb B T0 t s) := hin
  have HU : Hid (W.heap[w.heap.size]? = some (.cells #[.int .u8 b, .int .u8 f, .bool ub, .bool uf, .int .u8 2, .int .u8 st, .bool wd, .slice ao m cap] 32 (0, 0))) := hh
  have HRD : Hid (Reads W ao (xs.map (.int .u8))) := hrd.below (Nat.le_refl _) hB
  have HAP : Hid (∀ ad, ao = some ad → 0 < m → ad.block ≠ p) := hap
  have HM : Hid (xs.length = m) := hm
  have hf255 : 0 ≤ f ∧ f ≤ 255 := by omega
  obtain ⟨la, hla⟩ : ∃ la, la = t.last := ⟨_, rfl⟩
  rw [← hla] at hnx c3
  clear h hin hh hB hlast hla hf hrd hap hm
  go_enter Tryz.func135, Tryz.ntmps135
  go_upto_region 1 with fail
  rw [← hW]
  clear hW
  go_wp2_with fail
  go_quiet ((go_at_call 144; exact Calls.quiet_of_same (hnx _)))
  have hBq : Below W.heap.size W (W.drewN nq) := below_drewN (Below.refl _ _) nq
  have hin1 := HIN.out.below hBq
  have hu1 := (hBq.block _ (heap_lt HU.out)).trans HU.out
  have hrd1 := HRD.out.below (Nat.le_refl _) hBq
  have hF1 : Foot (fun g => g = p ∨ T0 g) (fun g => g = p ∨ T0 g) w (W.drewN nq) := Foot.of_below (HB.out.trans (below_le hBq hs))
  have v1 := (unit_cells hu1).1.2.1
  have z3 := (cyc_cells hin1.cells).2 3
  have d3 := (cyc_cells hin1.cells).1.2.2.2.1
  clear c3 u1 u4 hnx hBq
  generalize W.drewN nq = W1 at *
  obtain ⟨hin2, hF2⟩ := hin1.set (t' := { t with last := f }) (gb_set (k := 3) (.int .u8 f)) (row_set (cyc_row hin1.cells) 3 (.int .u8 f)) hf255 hin1.pl
  have hu2 := (hF2.block _ (heap_lt hu1) (fun e => HR.out _ e rfl)).trans hu1
  have hrd2 : Reads (W1.setCell ⟨p, 3, none⟩ (.int .u8 f)) ao (xs.map (.int .u8)) := fun i u hi => by
    obtain ⟨g, off, e, hc1⟩ := hrd1 i u hi
    refine ⟨g, off, e, ?_⟩
    have hlt : 0 < m := by
      have := (List.getElem?_eq_some_iff.1 hi).1
      rw [List.length_map] at this
      have := HM.out
      omega
    have hne := HAP.out _ e hlt
    have hk : (W1.setCell ⟨p, 3, none⟩ (.int .u8 f)).heap[g]? = W1.heap[g]? := (gb_set (w := W1) (b := p) (k := 3) (.int .u8 f)).block g (World.block_lt_of_cell? W1 _ hc1) (fun e2 => by simp only [Option.some.injEq] at e2; exact hne e2)
    exact (World.cell?_of_block (a := ⟨g, off + i, none⟩) hk).trans hc1
  have v7 := (unit_cells hu2).1.2.2.2.2.2.2.2
  obtain ⟨W2, hW2⟩ : ∃ W2, W2 = W1.setCell ⟨p, 3, none⟩ (.int .u8 f) := ⟨_, rfl⟩
  have hcl := clone_reads2 ao m cap xs W2 HM.out hl hc (by rw [hW2]; exact hrd2)
  have H2 : Hid (CycIn W2 p hb B T0 { t with last := f } s ∧ Foot (fun g => g = p ∨ T0 g) (fun g => g = p ∨ T0 g) w W2) := by
    rw [hW2]
    exact ⟨hin2, hF1.trans hF2⟩
  clear hin1 hin2 hu1 hu2 hF1 hF2 hrd1 hrd2
  go_wp2_with (go_at_call 109; rw [← hW2]; refine hcl.mono ?_; rintro e w3 ⟨vo, vc, rfl, hr3, hB3, hl3⟩)
  go_ret3
  exact ⟨vo, vc, rfl, hr3, hl3.mono H2.out.2.size (Nat.le_refl _), H2.out.1.below hB3, H2.out.2.trans (Foot.of_below hB3)⟩

/-- .. of either method, of any kind, with any information that lies apart. -/
theorem wtake2_any (p hb B : Nat) (T0 : Nat → Prop) (x : Wt) (s : Hs) (b f k st : Int) (ub uf wd : Bool) (ao : Option Addr) (m cap : Nat) (xs : List Int) (w : World) (h : WayIn w p hb B T0 x s) (hm : xs.length = m) (hl : m ≤ 1000) (hrd : Reads w ao (xs.map (.int .u8)))
    (hao : (ao = none → cap = 0) ∧ (xs = [] ∨ ∃ g off, ao = some ⟨g, off, none⟩ ∧ g < w.heap.size ∧ ¬ (g = p ∨ T0 g))) :
    Calls Tryz.prog (fTake x.cyclic) #[.pointer (some ⟨p, 0, none⟩), .agg #[.int .u8 b, .int .u8 f, .bool ub, .bool uf, .int .u8 k, .int .u8 st, .bool wd, .slice ao m cap]] w fun e w' => ∃ vo n vc, e = .returned (.tuple #[.slice vo n vc, .bool (x.tk f k uf).2.1, .int .i64 (x.tk f k uf).2.2]) ∧
      ((x.tk f k uf).2.1 = true → n = m ∧ Reads w' vo (xs.map (.int .u8)) ∧ Lies w' w.heap.size vo) ∧ WayIn w' p hb B T0 (x.tk f k uf).1 s ∧ Foot (fun g => g = p ∨ T0 g) (fun g => g = p ∨ T0 g) w w' := by
  cases x with
  | inl t =>
    have h' : BasIn w p hb B T0 t s := h
    by_cases hst : uf = t.bib
    · by_cases hy : k = 2 ∧ f = (t.last + 1) % 128
      · have e0 : Wt.tk (.inl t) f k uf = (.inl { t with i0 := false, i1 := t.i0, last := f, ask := false }, true, 0) := by simp only [Wt.tk, if_pos hst, if_pos hy]
        rw [e0]
        obtain ⟨rfl, hf⟩ := hy
        obtain ⟨hc0, rfl | ⟨g, off, rfl, hg, hn⟩⟩ := hao
        · obtain rfl : 0 = m := hm
          refine (take_in0 p hb B T0 t s b f st ub uf wd ao cap hc0 w h' hst hf).mono ?_
          rintro e w' ⟨vo, vc, rfl, hli, hin, hF⟩
          exact ⟨vo, 0, vc, rfl, fun _ => ⟨rfl, Reads.nil _ _, hli⟩, hin, hF⟩
        · refine (take_in p hb B T0 t s b f st ub uf wd g off m cap xs w h' hst hf hm hl hrd (fun y hy e => hn (e ▸ hy)) hg).mono ?_
          rintro e w' ⟨vv, rfl, hown, hin, hF⟩
          obtain ⟨ao, cap', rfl, -, hr, -⟩ := owns_form hown
          exact ⟨ao, _, cap', rfl, fun _ => ⟨rfl, hr, owns_lies hown⟩, hin, hF⟩
      · by_cases hl : f = t.last
        · have e0 : Wt.tk (.inl t) f k uf = (.inl { t with i0 := false, i1 := t.i0, ask := false }, false, 0) := by simp only [Wt.tk, if_pos hst, if_neg hy, if_pos hl]
          rw [e0]
          refine (take_same p hb B T0 t s b f k st ub uf wd _ w h' hst hl.symm).mono ?_
          rintro e w' ⟨rfl, hin, hF⟩
          exact ⟨none, 0, 0, rfl, fun c => Bool.noConfusion (show false = true from c), hin, hF⟩
        · have e0 : Wt.tk (.inl t) f k uf = (.inl { t with i0 := false, i1 := t.i0, bib := !t.bib, ask := true }, false, 0) := by simp only [Wt.tk, if_pos hst, if_neg hy, if_neg hl]
          rw [e0]
          refine (take_ask p hb B T0 t s b f k st ub uf wd _ w h' hst hl hy).mono ?_
          rintro e w' ⟨rfl, hin, hF⟩
          exact ⟨none, 0, 0, rfl, fun c => Bool.noConfusion (show false = true from c), hin, hF⟩
    · have hst' : uf = !t.bib := by cases uf <;> cases hb : t.bib <;> simp_all
      have e0 : Wt.tk (.inl t) f k uf = (.inl { t with i0 := !t.ask, i1 := t.i0 }, false, if !t.ask && (t.i0 || t.i1) then 10 else 0) := by simp only [Wt.tk, if_neg hst]
      rw [e0]
      refine (take_stale p hb B T0 t s b f k st ub uf wd _ _ _ _ w h' hst' rfl rfl rfl).mono ?_
      rintro e w' ⟨rfl, hin, hF⟩
      exact ⟨none, 0, 0, rfl, fun c => Bool.noConfusion (show false = true from c), hin, hF⟩
  | inr t =>
    have h' : CycIn w p hb B T0 t s := h
    by_cases hy : k = 2 ∧ f = (t.last + 1) % 128
    · have e0 : Wt.tk (.inr t) f k uf = (.inr { t with last := f }, true, 0) := by simp only [Wt.tk, if_pos hy]
      rw [e0]
      obtain ⟨rfl, hf⟩ := hy
      refine (take_yes2 p hb B T0 t s b f st ub uf wd ao m cap xs w h' hf hm hl hao.1 hrd (fun ad e hm0 => by
        rcases hao.2 with rfl | ⟨g, off, rfl, -, hn⟩
        · have hm' : 0 = m := hm
          omega
        · simp only [Option.some.injEq] at e
          subst e
          exact fun e => hn (.inl e))).mono ?_
      rintro e w' ⟨vo, vc, rfl, hr, hli, hin, hF⟩
      exact ⟨vo, _, vc, rfl, fun _ => ⟨rfl, hr, hli⟩, hin, hF⟩
    · have e0 : Wt.tk (.inr t) f k uf = (.inr t, false, 0) := by simp only [Wt.tk, if_neg hy]
      rw [e0]
      refine (take_no p hb B T0 t s b f k st ub uf wd _ w h' (by omega)).mono ?_
      rintro e w' ⟨rfl, hB⟩
      exact ⟨none, 0, 0, rfl, fun c => Bool.noConfusion (show false = true from c), h'.below hB, Foot.of_below hB⟩
end Go.Proofs.YtldjglmelbkngaaGreat.Tape
