/- The contract of a Basic's Answer. -/
import Derived.Test.YtldjglmelbkngaaGreatBasic3
import Derived.BigQuiet
namespace Go.Proofs.YtldjglmelbkngaaGreat.Tape
open Go.ChangeShapes Go.WideShapes Go.ChangeAt Go.RowKit
set_option linter.unusedVariables false

/-- A new block with a unit that came. -/
theorem box_unit (w : World) (cs : Array Value) : ∃ W, W = w.alloc (.cells cs 32) ∧ Below w.heap.size w W ∧ W.heap[w.heap.size]? = some (.cells cs 32 (0, 0)) :=
  ⟨_, rfl, (Below.refl w.heap.size w).alloc (Nat.le_refl _) _, heap_alloc_new w _⟩

theorem unit_cells {w : World} {b : Nat} {c0 c1 c2 c3 c4 c5 c6 c7 : Value} (h : w.heap[b]? = some (.cells #[c0, c1, c2, c3, c4, c5, c6, c7] 32 (0, 0))) :
    (w.cell? ⟨b, 0, none⟩ = some c0 ∧ w.cell? ⟨b, 1, none⟩ = some c1 ∧ w.cell? ⟨b, 2, none⟩ = some c2 ∧ w.cell? ⟨b, 3, none⟩ = some c3 ∧ w.cell? ⟨b, 4, none⟩ = some c4 ∧ w.cell? ⟨b, 5, none⟩ = some c5 ∧ w.cell? ⟨b, 6, none⟩ = some c6 ∧ w.cell? ⟨b, 7, none⟩ = some c7) ∧ ∀ k, w.frozen? ⟨b, k, none⟩ = false := by
  refine ⟨⟨?_, ?_, ?_, ?_, ?_, ?_, ?_, ?_⟩, Lib.frozen_of_heap h⟩ <;> rw [Lib.cell_of_heap h] <;> rfl

/-- What See leaves of the answers. -/
theorem see_b {w : World} {p hb B : Nat} {T0 : Nat → Prop} {t : Bs} {s : Hs} (h : BasIn w p hb B T0 t s) (odd : Bool) :
    BasIn ((w.setCell ⟨p, 6, none⟩ (.bool odd)).setCell ⟨p, 7, none⟩ (.bool t.b0)) p hb B T0 { t with b0 := odd, b1 := t.b0 } s ∧ Foot (fun g => g = p ∨ T0 g) (fun g => g = p ∨ T0 g) w ((w.setCell ⟨p, 6, none⟩ (.bool odd)).setCell ⟨p, 7, none⟩ (.bool t.b0)) :=
  h.set ((gb_set _).trans (gb_set _)) (row_set (row_set (bas_row h.cells) 6 _) 7 _) h.last h.again
theorem see_i {w : World} {p hb B : Nat} {T0 : Nat → Prop} {t : Bs} {s : Hs} (h : BasIn w p hb B T0 t s) (odd : Bool) :
    BasIn ((w.setCell ⟨p, 8, none⟩ (.bool odd)).setCell ⟨p, 9, none⟩ (.bool t.i0)) p hb B T0 { t with i0 := odd, i1 := t.i0 } s ∧ Foot (fun g => g = p ∨ T0 g) (fun g => g = p ∨ T0 g) w ((w.setCell ⟨p, 8, none⟩ (.bool odd)).setCell ⟨p, 9, none⟩ (.bool t.i0)) :=
  h.set ((gb_set _).trans (gb_set _)) (row_set (row_set (bas_row h.cells) 8 _) 9 _) h.last h.again

/-- What an answer leaves. -/
def Bs.ans (t : Bs) (n : Nat) (gone : Int) (bib : Bool) : Bs :=
  if bib = t.fib then (if t.again = -1 then { t with b0 := false, b1 := t.b0 } else ({ t with b0 := false, b1 := t.b0 } : Bs).to n (if t.again < gone then 0 else t.again - gone))
  else ({ (if t.again = -1 then ({ t with b0 := false, b1 := t.b0 } : Bs) else ({ t with b0 := false, b1 := t.b0 } : Bs).to n (if t.again < gone then 0 else t.again - gone)) with fib := bib } : Bs).to n 0

set_option maxRecDepth 100000 in
set_option maxHeartbeats 2000000 in
theorem answer_odd (p hb B : Nat) (T0 : Nat → Prop) (t : Bs) (s : Hs) (b f k st : Int) (ub uf wd : Bool) (x : Value) (r : Int) (w : World) (h : BasIn w p hb B T0 t s) (h0 : 0 ≤ b) (h1 : b ≤ 255) (hk : s.knows b = false) (hr : r = if t.b0 || t.b1 then 10 else 0) :
    Calls Tryz.prog 157 #[.pointer (some ⟨p, 0, none⟩), .agg #[.int .u8 b, .int .u8 f, .bool ub, .bool uf, .int .u8 k, .int .u8 st, .bool wd, x]] w fun e w' => e = .returned (.tuple #[.int .i64 0, .int .i64 r]) ∧ BasIn w' p hb B T0 { t with b0 := true, b1 := t.b0 } s ∧ Foot (fun g => g = p ∨ T0 g) (fun g => g = p ∨ T0 g) w w' := by
  obtain ⟨W, hW, hB, hh⟩ := box_unit w #[.int .u8 b, .int .u8 f, .bool ub, .bool uf, .int .u8 k, .int .u8 st, .bool wd, x]
  have hs := hB.size
  have hin := h.below hB
  have hkn := fun q => knows_any hb B T0 s b (W.drewN q) (hin.hold.drewN q) h0 h1
  rw [hk] at hkn
  obtain ⟨⟨c0, -⟩, -⟩ := bas_cells hin.cells
  obtain ⟨⟨u0, -⟩, -⟩ := unit_cells hh
  have HIN : Hid (BasIn W p hb B T0 t s) := hin
  have HB : Hid (Below w.heap.size w W) := hB
  clear h hk hin hh hB
  go_enter Tryz.func157, Tryz.ntmps157
  go_upto_region 1 with fail
  rw [← hW]
  clear hW
  go_wp2_with fail
  go_quiet ((go_at_call 145; exact Calls.quiet_of_same (hkn _)))
  go_upto_region 4 with fail
  have hBq : Below W.heap.size W (W.drewN nq) := below_drewN (Below.refl _ _) nq
  have hin2 := HIN.out.below hBq
  obtain ⟨hin3, hF3⟩ := see_b hin2 true
  have hF : Foot (fun g => g = p ∨ T0 g) (fun g => g = p ∨ T0 g) w _ := (Foot.of_below (HB.out.trans (below_le hBq hs))).trans hF3
  obtain ⟨⟨-, -, -, -, -, -, c6, c7, -⟩, hz⟩ := bas_cells hin2.cells
  have hsee := see_any p 6 true t.b0 t.b1 _ c6 (hz 6) c7 (hz 7)
  simp only [Nat.reduceAdd] at hsee
  have HFIN : Hid (BasIn _ p hb B T0 { t with b0 := true, b1 := t.b0 } s ∧ Foot (fun g => g = p ∨ T0 g) (fun g => g = p ∨ T0 g) w _) := ⟨hin3, hF⟩
  generalize ((W.drewN nq).setCell ⟨p, 6, none⟩ (.bool true)).setCell ⟨p, 7, none⟩ (.bool t.b0) = W3 at *
  obtain ⟨o, ho⟩ : ∃ o, o = (t.b0 || t.b1) := ⟨_, rfl⟩
  rw [← ho] at hsee hr
  clear ho hin2 hin3 hF3 hF c6 c7 hz hBq hkn c0 u0
  cases o
  all_goals
    simp only [Bool.false_eq_true, if_false, if_true] at hr
    subst hr
    go_wp2_with (go_at_call 138; refine hsee.mono ?_; rintro e w4 ⟨rfl, hw4⟩; obtain rfl := hw4.symm; clear hw4)
    go_ret2
    exact ⟨rfl, HFIN.out.1, HFIN.out.2⟩

set_option maxRecDepth 100000 in
set_option maxHeartbeats 4000000 in
theorem answer_ok (p hb B : Nat) (T0 : Nat → Prop) (t : Bs) (s : Hs) (b f k st : Int) (ub uf wd : Bool) (x : Value) (n : Nat) (g : Int) (w : World) (h : BasIn w p hb B T0 t s) (h0 : 0 ≤ b) (hk : s.knows b = true) (hn : n = (s.free b).sent.length) (hg : g = s.upTo b) :
    Calls Tryz.prog 157 #[.pointer (some ⟨p, 0, none⟩), .agg #[.int .u8 b, .int .u8 f, .bool ub, .bool uf, .int .u8 k, .int .u8 st, .bool wd, x]] w fun e w' => e = .returned (.tuple #[.int .i64 g, .int .i64 0]) ∧ ∃ T1, BasIn w' p hb B T1 (t.ans n g ub) (s.free b) ∧ Foot (fun g => g = p ∨ T0 g) (fun g => g = p ∨ T1 g) w w' := by
  have hb128 : b < 128 := by
    have : b < 128 ∧ (b - s.first + 1) % 128 ≤ s.sent.length := by simpa [Hs.knows] using hk
    exact this.1
  have hg2 : 0 ≤ g ∧ g ≤ 128 := by
    rw [hg]
    unfold Hs.upTo
    omega
  obtain ⟨W, hW, hB, hh⟩ := box_unit w #[.int .u8 b, .int .u8 f, .bool ub, .bool uf, .int .u8 k, .int .u8 st, .bool wd, x]
  have hs := hB.size
  have hin := h.below hB
  have HR : Hid (∀ r, r = w.heap.size → (∀ g, (g = p ∨ T0 g) → g ≠ r)) := fun r hr g hg e => by
    have := (h.at_.lt g hg).2
    omega
  have hkn := fun q => knows_any hb B T0 s b (W.drewN q) (hin.hold.drewN q) h0 (by omega)
  rw [hk] at hkn
  obtain ⟨⟨c0, -⟩, -⟩ := bas_cells hin.cells
  obtain ⟨⟨u0, -⟩, -⟩ := unit_cells hh
  have HIN : Hid (BasIn W p hb B T0 t s) := hin
  have HB : Hid (Below w.heap.size w W) := hB
  have HU : Hid (W.heap[w.heap.size]? = some (.cells #[.int .u8 b, .int .u8 f, .bool ub, .bool uf, .int .u8 k, .int .u8 st, .bool wd, x] 32 (0, 0))) := hh
  have HK : Hid (s.knows b = true) := hk
  have HNN : Hid (n = (s.free b).sent.length) := hn
  have HG : Hid (g = s.upTo b) := hg
  have hag := h.again
  clear h hk hin hh hB hn hg
  go_enter Tryz.func157, Tryz.ntmps157
  go_upto_region 1 with fail
  rw [← hW]
  clear hW
  go_wp2_with fail
  go_quiet ((go_at_call 145; exact Calls.quiet_of_same (hkn _)))
  go_upto_region 4 with fail
  have hBq : Below W.heap.size W (W.drewN nq) := below_drewN (Below.refl _ _) nq
  have hin2 := HIN.out.below hBq
  obtain ⟨hin3, hF3⟩ := see_b hin2 false
  have hF : Foot (fun g => g = p ∨ T0 g) (fun g => g = p ∨ T0 g) w _ := (Foot.of_below (HB.out.trans (below_le hBq hs))).trans hF3
  have hh3 := (hF3.block _ (heap_lt ((hBq.block _ (heap_lt HU.out)).trans HU.out)) (fun e => HR.out _ rfl _ e rfl)).trans ((hBq.block _ (heap_lt HU.out)).trans HU.out)
  obtain ⟨⟨-, -, -, -, -, -, c6, c7, -⟩, hz⟩ := bas_cells hin2.cells
  have hsee := see_any p 6 false t.b0 t.b1 _ c6 (hz 6) c7 (hz 7)
  simp only [Nat.reduceAdd, Bool.false_and] at hsee
  generalize ((W.drewN nq).setCell ⟨p, 6, none⟩ (.bool false)).setCell ⟨p, 7, none⟩ (.bool t.b0) = W3 at *
  clear hin2 c6 c7 hz hBq hkn c0 u0 HIN HB HU
  go_wp2_with (go_at_call 138; refine hsee.mono ?_; rintro e w4 ⟨rfl, hw4⟩; obtain rfl := hw4.symm; clear hw4)
  have hD : Below W3.heap.size W3 W3.drew := (Below.refl _ _).drew
  have hinD := hin3.below hD
  have hfr := free_ok hb B T0 s b W3.drew hinD.hold h0 HK.out
  rw [← HG.out] at hfr
  have HFD : Hid (Foot (fun g => g = p ∨ T0 g) (fun g => g = p ∨ T0 g) w W3.drew) := hF.trans (Foot.of_below hD)
  have HUD : Hid (W3.drew.heap[w.heap.size]? = some (.cells #[.int .u8 b, .int .u8 f, .bool ub, .bool uf, .int .u8 k, .int .u8 st, .bool wd, x] 32 (0, 0))) := hh3
  have HIND : Hid (BasIn W3.drew p hb B T0 { t with b0 := false, b1 := t.b0 } s) := hinD
  obtain ⟨⟨c0, -⟩, -⟩ := bas_cells hinD.cells
  obtain ⟨⟨u0, -⟩, -⟩ := unit_cells hh3
  have hS : W3.drew.cell? ⟨p, 0, none⟩ = some (.pointer (some ⟨hb, 0, none⟩)) ∧ W3.drew.cell? ⟨w.heap.size, 0, none⟩ = some (.int .u8 b) := ⟨c0, u0⟩
  clear hF hF3 hin3 hh3 hinD hD c0 u0 hsee
  go_region_held (fun W => W.cell? ⟨p, 0, none⟩ = some (.pointer (some ⟨hb, 0, none⟩)) ∧ W.cell? ⟨w.heap.size, 0, none⟩ = some (.int .u8 b)) (assumption)
    (first
    | (go_at_call 137; refine hfr.mono ?_; rintro e w5 ⟨rfl, T1, hat5, hF5⟩; have hst5 := HIND.out.step hat5 hF5; have HIN5 : Hid (BasIn w5 p hb B T1 { t with b0 := false, b1 := t.b0 } (s.free b)) := hst5.1; have HF5 : Hid (Foot (fun g => g = p ∨ T0 g) (fun g => g = p ∨ T1 g) w w5) := HFD.out.trans hst5.2; have HU5 : Hid (w5.heap[w.heap.size]? = some (.cells #[.int .u8 b, .int .u8 f, .bool ub, .bool uf, .int .u8 k, .int .u8 st, .bool wd, x] 32 (0, 0))) := (hst5.2.block _ (heap_lt HUD.out) (fun e => HR.out _ rfl _ e rfl)).trans HUD.out; have hS5 : w5.cell? ⟨p, 0, none⟩ = some (.pointer (some ⟨hb, 0, none⟩)) ∧ w5.cell? ⟨w.heap.size, 0, none⟩ = some (.int .u8 b) := ⟨(bas_cells HIN5.out.cells).1.1, (unit_cells HU5.out).1.1⟩; have HR1 : Hid (∀ g, (g = p ∨ T1 g) → g ≠ w.heap.size) := (fun g hg e => by rcases hst5.2.moved g hg with e' | e'; exact HR.out _ rfl _ e' e; have := heap_lt HUD.out; omega); clear hat5 hF5 hst5))
  have hre := resends_any p hb B T1 _ _ w5 HIN5.out
  simp only at hre
  clear hfr hS hS5 HIND HFD HUD
  by_cases hno : t.again = -1
  · have e1 : (t.again != -1) = false := by rw [hno]; rfl
    rw [e1] at hre
    have HNO : Hid (t.again = -1) := hno
    clear e1 hno
    go_wp2_with (go_at_call 161; refine hre.mono ?_; rintro e w6 ⟨rfl, hw6⟩; obtain rfl := hw6.symm; clear hw6)
    obtain ⟨⟨d0, d1, -⟩, dz⟩ := bas_cells HIN5.out.cells
    have dz1 := dz 1
    obtain ⟨⟨-, -, u2, -⟩, -⟩ := unit_cells HU5.out
    simp only at d1
    clear dz
    obtain ⟨fb, hfb⟩ : ∃ fb, fb = t.fib := ⟨_, rfl⟩
    rw [← hfb] at d1
    have HFB : Hid (fb = t.fib) := hfb
    clear hfb
    by_cases hub : ub = fb
    · have HRES : Hid (t.ans n g ub = ({ t with b0 := false, b1 := t.b0 } : Bs)) := by
        show _ = _
        unfold Bs.ans
        rw [if_pos (hub.trans HFB.out)]
        rw [if_pos HNO.out]
      subst hub
      cases ub
      all_goals
        go_wp2_with fail
        go_quiet (fail)
        go_wp2
        go_ret2
        have hBq : Below (w5).heap.size w5 ((w5).drewN nq) := below_drewN (Below.refl _ _) nq
        refine ⟨rfl, T1, ?_, HF5.out.trans (Foot.of_below hBq)⟩
        rw [HRES.out]
        exact HIN5.out.below hBq
    · have HRES : Hid (t.ans n g ub = ({ (({ t with b0 := false, b1 := t.b0 } : Bs)) with fib := ub } : Bs).to n 0) := by
        show _ = _
        unfold Bs.ans
        rw [if_neg (fun e => hub (e.trans HFB.out.symm))]
        rw [if_pos HNO.out]
      obtain rfl : fb = !ub := by cases ub <;> cases fb <;> simp_all
      clear hub
      cases ub
      · go_wp2_with fail
        go_quiet (fail)
        go_upto_region 14 with fail
        have hBq : Below (w5).heap.size w5 ((w5).drewN nq) := below_drewN (Below.refl _ _) nq
        have hin6 := HIN5.out.below hBq
        obtain ⟨hin7, hF7⟩ := BasIn.set (t' := { (({ t with b0 := false, b1 := t.b0 } : Bs)) with fib := false }) hin6 (gb_set (k := 1) (.bool false)) (row_set (bas_row hin6.cells) 1 (.bool false)) hin6.last hin6.again
        have hgo := goTo_any p hb B T1 _ _ 0 _ hin7 (by omega)
        have HF7 : Hid (Foot (fun g => g = p ∨ T0 g) (fun g => g = p ∨ T1 g) w _) := HF5.out.trans ((Foot.of_below hBq).trans hF7)
        clear hin6 hin7 hF7 hBq d0 d1 dz1 u2
        go_wp2_with (go_at_call 164; refine hgo.mono ?_; rintro e w8 ⟨rfl, hin8, hF8⟩; have HIN8 := hin8; have HF8 := HF7.out.trans hF8; clear hin8 hF8)
        go_ret2
        refine ⟨rfl, T1, ?_, HF8⟩
        rw [HRES.out, HNN.out]
        exact HIN8
      · go_wp2_with fail
        go_quiet (fail)
        go_upto_region 14 with fail
        have hBq : Below (w5).heap.size w5 ((w5).drewN nq) := below_drewN (Below.refl _ _) nq
        have hin6 := HIN5.out.below hBq
        obtain ⟨hin7, hF7⟩ := BasIn.set (t' := { (({ t with b0 := false, b1 := t.b0 } : Bs)) with fib := true }) hin6 (gb_set (k := 1) (.bool true)) (row_set (bas_row hin6.cells) 1 (.bool true)) hin6.last hin6.again
        have hgo := goTo_any p hb B T1 _ _ 0 _ hin7 (by omega)
        have HF7 : Hid (Foot (fun g => g = p ∨ T0 g) (fun g => g = p ∨ T1 g) w _) := HF5.out.trans ((Foot.of_below hBq).trans hF7)
        clear hin6 hin7 hF7 hBq d0 d1 dz1 u2
        go_wp2_with (go_at_call 164; refine hgo.mono ?_; rintro e w8 ⟨rfl, hin8, hF8⟩; have HIN8 := hin8; have HF8 := HF7.out.trans hF8; clear hin8 hF8)
        go_ret2
        refine ⟨rfl, T1, ?_, HF8⟩
        rw [HRES.out, HNN.out]
        exact HIN8
  · have e1 : (t.again != -1) = true := by simpa using hno
    rw [e1] at hre
    have HNO : Hid (¬ t.again = -1) := hno
    obtain ⟨-, -, -, -, -, c5, -⟩ := (bas_cells HIN5.out.cells).1
    simp only at c5
    obtain ⟨m, hm⟩ : ∃ m, m = if t.again < g then 0 else t.again - g := ⟨_, rfl⟩
    have hm0 : 0 ≤ m := by rw [hm]; split <;> omega
    have hgo := goTo_any p hb B T1 _ _ m w5 HIN5.out (by omega)
    rw [← HNN.out] at hgo
    have HM : Hid (m = if t.again < g then 0 else t.again - g) := hm
    obtain ⟨a, ha⟩ : ∃ a, a = t.again := ⟨_, rfl⟩
    rw [← ha] at c5 hm hno hag
    clear e1 ha
    by_cases hlt : a < g
    · rw [if_pos hlt] at hm
      subst hm
      go_wp2_with (first | (go_at_call 161; refine hre.mono ?_; rintro e w6 ⟨rfl, hw6⟩; obtain rfl := hw6.symm; clear hw6) | (go_at_call 164; refine hgo.mono ?_; rintro e w7 ⟨rfl, hin7, hF7⟩; have HIN7 : Hid (BasIn w7 p hb B T1 _ (s.free b)) := hin7; have HF7 : Hid (Foot (fun g => g = p ∨ T0 g) (fun g => g = p ∨ T1 g) w w7) := HF5.out.trans hF7; have HU7 : Hid (w7.heap[w.heap.size]? = some (.cells #[.int .u8 b, .int .u8 f, .bool ub, .bool uf, .int .u8 k, .int .u8 st, .bool wd, x] 32 (0, 0))) := (hF7.block _ (heap_lt HU5.out) (fun e => HR1.out _ e rfl)).trans HU5.out; clear hin7 hF7 hre hgo))
      obtain ⟨⟨d0, d1, -⟩, dz⟩ := bas_cells HIN7.out.cells
      have dz1 := dz 1
      obtain ⟨⟨-, -, u2, -⟩, -⟩ := unit_cells HU7.out
      simp only [Bs.to_fib] at d1
      clear dz
      obtain ⟨fb, hfb⟩ : ∃ fb, fb = t.fib := ⟨_, rfl⟩
      rw [← hfb] at d1
      have HFB : Hid (fb = t.fib) := hfb
      clear hfb
      by_cases hub : ub = fb
      · have HRES : Hid (t.ans n g ub = (({ t with b0 := false, b1 := t.b0 } : Bs).to n 0)) := by
          show _ = _
          unfold Bs.ans
          rw [if_pos (hub.trans HFB.out)]
          rw [if_neg HNO.out, ← HM.out]
        subst hub
        cases ub
        all_goals
          go_wp2_with fail
          go_quiet (fail)
          go_wp2
          go_ret2
          have hBq : Below (w7).heap.size w7 ((w7).drewN nq) := below_drewN (Below.refl _ _) nq
          refine ⟨rfl, T1, ?_, HF7.out.trans (Foot.of_below hBq)⟩
          rw [HRES.out]
          exact HIN7.out.below hBq
      · have HRES : Hid (t.ans n g ub = ({ ((({ t with b0 := false, b1 := t.b0 } : Bs).to n 0)) with fib := ub } : Bs).to n 0) := by
          show _ = _
          unfold Bs.ans
          rw [if_neg (fun e => hub (e.trans HFB.out.symm))]
          rw [if_neg HNO.out, ← HM.out]
        obtain rfl : fb = !ub := by cases ub <;> cases fb <;> simp_all
        clear hub
        cases ub
        · go_wp2_with fail
          go_quiet (fail)
          go_upto_region 14 with fail
          have hBq : Below (w7).heap.size w7 ((w7).drewN nq) := below_drewN (Below.refl _ _) nq
          have hin6 := HIN7.out.below hBq
          obtain ⟨hin7, hF7⟩ := BasIn.set (t' := { ((({ t with b0 := false, b1 := t.b0 } : Bs).to n 0)) with fib := false }) hin6 (gb_set (k := 1) (.bool false)) (row_set (bas_row hin6.cells) 1 (.bool false)) hin6.last hin6.again
          have hgo := goTo_any p hb B T1 _ _ 0 _ hin7 (by omega)
          have HF7 : Hid (Foot (fun g => g = p ∨ T0 g) (fun g => g = p ∨ T1 g) w _) := HF7.out.trans ((Foot.of_below hBq).trans hF7)
          clear hin6 hin7 hF7 hBq d0 d1 dz1 u2
          go_wp2_with (go_at_call 164; refine hgo.mono ?_; rintro e w8 ⟨rfl, hin8, hF8⟩; have HIN8 := hin8; have HF8 := HF7.out.trans hF8; clear hin8 hF8)
          go_ret2
          refine ⟨rfl, T1, ?_, HF8⟩
          rw [HRES.out, HNN.out]
          exact HIN8
        · go_wp2_with fail
          go_quiet (fail)
          go_upto_region 14 with fail
          have hBq : Below (w7).heap.size w7 ((w7).drewN nq) := below_drewN (Below.refl _ _) nq
          have hin6 := HIN7.out.below hBq
          obtain ⟨hin7, hF7⟩ := BasIn.set (t' := { ((({ t with b0 := false, b1 := t.b0 } : Bs).to n 0)) with fib := true }) hin6 (gb_set (k := 1) (.bool true)) (row_set (bas_row hin6.cells) 1 (.bool true)) hin6.last hin6.again
          have hgo := goTo_any p hb B T1 _ _ 0 _ hin7 (by omega)
          have HF7 : Hid (Foot (fun g => g = p ∨ T0 g) (fun g => g = p ∨ T1 g) w _) := HF7.out.trans ((Foot.of_below hBq).trans hF7)
          clear hin6 hin7 hF7 hBq d0 d1 dz1 u2
          go_wp2_with (go_at_call 164; refine hgo.mono ?_; rintro e w8 ⟨rfl, hin8, hF8⟩; have HIN8 := hin8; have HF8 := HF7.out.trans hF8; clear hin8 hF8)
          go_ret2
          refine ⟨rfl, T1, ?_, HF8⟩
          rw [HRES.out, HNN.out]
          exact HIN8
    · rw [if_neg hlt] at hm
      subst hm
      go_wp2_with (first | (go_at_call 161; refine hre.mono ?_; rintro e w6 ⟨rfl, hw6⟩; obtain rfl := hw6.symm; clear hw6) | (go_at_call 164; refine hgo.mono ?_; rintro e w7 ⟨rfl, hin7, hF7⟩; have HIN7 : Hid (BasIn w7 p hb B T1 _ (s.free b)) := hin7; have HF7 : Hid (Foot (fun g => g = p ∨ T0 g) (fun g => g = p ∨ T1 g) w w7) := HF5.out.trans hF7; have HU7 : Hid (w7.heap[w.heap.size]? = some (.cells #[.int .u8 b, .int .u8 f, .bool ub, .bool uf, .int .u8 k, .int .u8 st, .bool wd, x] 32 (0, 0))) := (hF7.block _ (heap_lt HU5.out) (fun e => HR1.out _ e rfl)).trans HU5.out; clear hin7 hF7 hre hgo))
      obtain ⟨⟨d0, d1, -⟩, dz⟩ := bas_cells HIN7.out.cells
      have dz1 := dz 1
      obtain ⟨⟨-, -, u2, -⟩, -⟩ := unit_cells HU7.out
      simp only [Bs.to_fib] at d1
      clear dz
      obtain ⟨fb, hfb⟩ : ∃ fb, fb = t.fib := ⟨_, rfl⟩
      rw [← hfb] at d1
      have HFB : Hid (fb = t.fib) := hfb
      clear hfb
      by_cases hub : ub = fb
      · have HRES : Hid (t.ans n g ub = (({ t with b0 := false, b1 := t.b0 } : Bs).to n (a - g))) := by
          show _ = _
          unfold Bs.ans
          rw [if_pos (hub.trans HFB.out)]
          rw [if_neg HNO.out, ← HM.out]
        subst hub
        cases ub
        all_goals
          go_wp2_with fail
          go_quiet (fail)
          go_wp2
          go_ret2
          have hBq : Below (w7).heap.size w7 ((w7).drewN nq) := below_drewN (Below.refl _ _) nq
          refine ⟨rfl, T1, ?_, HF7.out.trans (Foot.of_below hBq)⟩
          rw [HRES.out]
          exact HIN7.out.below hBq
      · have HRES : Hid (t.ans n g ub = ({ ((({ t with b0 := false, b1 := t.b0 } : Bs).to n (a - g))) with fib := ub } : Bs).to n 0) := by
          show _ = _
          unfold Bs.ans
          rw [if_neg (fun e => hub (e.trans HFB.out.symm))]
          rw [if_neg HNO.out, ← HM.out]
        obtain rfl : fb = !ub := by cases ub <;> cases fb <;> simp_all
        clear hub
        cases ub
        · go_wp2_with fail
          go_quiet (fail)
          go_upto_region 14 with fail
          have hBq : Below (w7).heap.size w7 ((w7).drewN nq) := below_drewN (Below.refl _ _) nq
          have hin6 := HIN7.out.below hBq
          obtain ⟨hin7, hF7⟩ := BasIn.set (t' := { ((({ t with b0 := false, b1 := t.b0 } : Bs).to n (a - g))) with fib := false }) hin6 (gb_set (k := 1) (.bool false)) (row_set (bas_row hin6.cells) 1 (.bool false)) hin6.last hin6.again
          have hgo := goTo_any p hb B T1 _ _ 0 _ hin7 (by omega)
          have HF7 : Hid (Foot (fun g => g = p ∨ T0 g) (fun g => g = p ∨ T1 g) w _) := HF7.out.trans ((Foot.of_below hBq).trans hF7)
          clear hin6 hin7 hF7 hBq d0 d1 dz1 u2
          go_wp2_with (go_at_call 164; refine hgo.mono ?_; rintro e w8 ⟨rfl, hin8, hF8⟩; have HIN8 := hin8; have HF8 := HF7.out.trans hF8; clear hin8 hF8)
          go_ret2
          refine ⟨rfl, T1, ?_, HF8⟩
          rw [HRES.out, HNN.out]
          exact HIN8
        · go_wp2_with fail
          go_quiet (fail)
          go_upto_region 14 with fail
          have hBq : Below (w7).heap.size w7 ((w7).drewN nq) := below_drewN (Below.refl _ _) nq
          have hin6 := HIN7.out.below hBq
          obtain ⟨hin7, hF7⟩ := BasIn.set (t' := { ((({ t with b0 := false, b1 := t.b0 } : Bs).to n (a - g))) with fib := true }) hin6 (gb_set (k := 1) (.bool true)) (row_set (bas_row hin6.cells) 1 (.bool true)) hin6.last hin6.again
          have hgo := goTo_any p hb B T1 _ _ 0 _ hin7 (by omega)
          have HF7 : Hid (Foot (fun g => g = p ∨ T0 g) (fun g => g = p ∨ T1 g) w _) := HF7.out.trans ((Foot.of_below hBq).trans hF7)
          clear hin6 hin7 hF7 hBq d0 d1 dz1 u2
          go_wp2_with (go_at_call 164; refine hgo.mono ?_; rintro e w8 ⟨rfl, hin8, hF8⟩; have HIN8 := hin8; have HF8 := HF7.out.trans hF8; clear hin8 hF8)
          go_ret2
          refine ⟨rfl, T1, ?_, HF8⟩
          rw [HRES.out, HNN.out]
          exact HIN8
end Go.Proofs.YtldjglmelbkngaaGreat.Tape
