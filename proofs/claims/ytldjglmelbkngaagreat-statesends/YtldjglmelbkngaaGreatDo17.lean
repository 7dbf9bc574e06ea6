/- The contract of the law's do. -/
import Derived.Test.YtldjglmelbkngaaGreatInv2
import Derived.Test.YtldjglmelbkngaaGreatState20
import Derived.Test.YtldjglmelbkngaaGreatState22
import Derived.Test.YtldjglmelbkngaaGreatWaitsS
import Derived.Deep.RegionHeld
import Derived.Deep.RegionHeld3
import Derived.Deep.QuietTactic
import Derived.BigQuiet
namespace Go.Proofs.YtldjglmelbkngaaGreat.Tape
open Go.ChangeShapes Go.WideShapes Go.ChangeAt Go.RowKit
set_option linter.unusedVariables false

attribute [local go_sem ↓] ldU_def stU_def
attribute [local go_sem] m_taken c_taken m_hold c_hold

theorem DoR.grow {x x' : St} (h : DoR x x') : x'.told.length ≤ x.told.length + 6 ∧ x.fl ≤ x'.fl ∧ x'.fl ≤ x.fl + 1 := by
  obtain ⟨-, ts, g, hl, hq⟩ := h
  rw [g.told, g.fl]
  refine ⟨by simp [tdL]; omega, by omega, by omega⟩
theorem Iv.room {x : St} (h : Iv x) (ht : x.told.length ≤ 740) (hf : 0 ≤ x.fl ∧ x.fl ≤ 740) : Room 250 x :=
  ⟨by omega, ⟨hf.1, by omega⟩, by have := h.lk; omega, h.lk.2, ⟨h.al.2.1.1, by have := h.al.2.1; omega⟩, ⟨h.al.2.2.1.1, by have := h.al.2.2.1; omega⟩, h.al.1⟩
theorem DoR.room {x x' : St} (h : DoR x x') (ht : x.told.length ≤ 730) (hf : 0 ≤ x.fl ∧ x.fl ≤ 730) : Room 250 x' := by
  have := h.grow
  exact h.1.room (by omega) (by omega)
theorem LA.first {w0 w : World} {P : Pl} {k : Nat} {x : St} {K : World → (Nat → Prop) → Prop} (h : LA w0 P k x K w) : Calls Tryz.prog 41 #[.pointer (some ⟨P.hb, 0, none⟩)] w fun e w' => e = .returned (.int .u8 x.hs.first) ∧ w' = w := h.holdAt.elim fun T0 hh => first_any P.hb P.B T0 x.hs w hh

theorem hidD {x x' : St} (h : DoR x x') : Hid (DoR x x') := h
/-- A unit's octets that came in. -/
theorem LA.info {w0 w : World} {P : Pl} {k : Nat} {x : St} {K : World → (Nat → Prop) → Prop} (h : LA w0 P k x K w) {ao : Option Addr} {cap : Nat} {xs : List Int} (hrd : Reads w0 ao (xs.map (.int .u8))) (hl : xs.length ≤ 1000) (hnil : ao = none → cap = 0) : ∀ T, (∀ g, T g → P.B ≤ g ∧ g < w.heap.size) → K w T → InfoIn w T ao cap xs := fun T hT _ => by
  refine ⟨hrd.below (Nat.le_refl _) h.below, hl, hnil, ?_⟩
  cases xs with
  | nil => exact .inl rfl
  | cons y ys =>
    obtain ⟨g, off, rfl, hc⟩ := hrd 0 (.int .u8 y) rfl
    have hg : g < w0.heap.size := World.block_lt_of_cell? w0 _ hc
    have := h.below.size
    exact .inr ⟨g, off, rfl, by omega, fun e => by have := (hT g e).1; have := h.low; omega⟩
/-- An act's box beside a State. -/
def Bx (g : Nat) (cs : Array Value) : World → (Nat → Prop) → Prop := fun w T => w.heap[g]? = some (.cells cs 34 (0, 0)) ∧ ¬ T g
theorem stays_bx (g : Nat) (cs : Array Value) : Stays (Bx g cs) := fun w w' T T' hf hk =>
  ⟨(hf.block _ (heap_lt hk.1) hk.2).trans hk.1, fun e => (hf.moved g e).elim hk.2 fun e => by have := heap_lt hk.1; omega⟩
theorem LA.bx {w0 w : World} {P : Pl} {k : Nat} {x : St} (h : LA w0 P k x noK w) (cs : Array Value) : LA w0 P k x (Bx w.heap.size cs) (w.alloc (.cells cs 34)) := by
  obtain ⟨⟨T, hS, hK⟩, hs, hb0, hl⟩ := h
  have hB : Below w.heap.size w (w.alloc (.cells cs 34)) := (Below.refl _ _).alloc (Nat.le_refl _) _
  exact ⟨⟨T, hS.keep hB, heap_alloc_new w _, fun e => by have := (hS.lt.1 _ e).2; omega⟩, stays_bx _ _, hb0.trans (below_le hB hb0.size), hl⟩
theorem bx_put {g g' j : Nat} {y : Value} {cs : Array Value} {w : World} {T : Nat → Prop} (hne : g ≠ g') (h : Bx g cs w T) : Bx g cs (w.setCell ⟨g', j, none⟩ y) T :=
  ⟨((gb_set (w := w) (b := g') (k := j) y).block g (heap_lt h.1) (fun e => by simp only [Option.some.injEq] at e; exact hne e)).trans h.1, h.2⟩

/-- An act's value. -/
def actV (k a b f : Int) (p q : Bool) (kd st : Int) (wd : Bool) (v : Value) : Array Value := #[.int .u8 k, .int .u8 a, .int .u8 b, .int .u8 f, .bool p, .bool q, .int .u8 kd, .int .u8 st, .bool wd, v]

theorem bx_cells {k a b f : Int} {p q : Bool} {kd st : Int} {wd : Bool} {v : Value} {g : Nat} {Y : World} {T : Nat → Prop} (h : Bx g (actV k a b f p q kd st wd v) Y T) :
    Y.cell? ⟨g, 0, none⟩ = some (.int .u8 k) ∧ Y.cell? ⟨g, 1, none⟩ = some (.int .u8 a) ∧ Y.cell? ⟨g, 6, none⟩ = some (.int .u8 kd) ∧ (ldU (.pointer (some ⟨g, 2, none⟩))).run Tryz.prog Y = .ok (.agg #[.int .u8 b, .int .u8 f, .bool p, .bool q, .int .u8 kd, .int .u8 st, .bool wd, v]) Y := by
  have hh : Y.heap[g]? = some (.cells #[.int .u8 k, .int .u8 a, .int .u8 b, .int .u8 f, .bool p, .bool q, .int .u8 kd, .int .u8 st, .bool wd, v] 34 (0, 0)) := h.1
  refine ⟨?_, ?_, ?_, ?_⟩
  · rw [Lib.cell_of_heap hh]; rfl
  · rw [Lib.cell_of_heap hh]; rfl
  · rw [Lib.cell_of_heap hh]; rfl
  · have hr : Y.rangeAt g 2 [.int .u8 b, .int .u8 f, .bool p, .bool q, .int .u8 kd, .int .u8 st, .bool wd, v] := by
      have := World.rangeAt_of_block hh 2 8
      simpa using this
    exact run_loadAt_mid (P := Tryz.prog) Y g 2 32 [.int .u8 b, .int .u8 f, .bool p, .bool q, .int .u8 kd, .int .u8 st, .bool wd, v] _ hr Tryz.underlying32 rfl (by rw [info37]; simp)

set_option maxRecDepth 100000 in
set_option maxHeartbeats 4000000 in
theorem do_any {w0 : World} {P : Pl} (x : St) (hI : Iv x) (ht : x.told.length ≤ 720) (hf : 0 ≤ x.fl ∧ x.fl ≤ 720) (k a b f : Int) (p q : Bool) (kd st : Int) (wd : Bool) (ao : Option Addr) (n cap : Nat) (xs : List Int)
    (k0 : 0 ≤ k ∧ k ≤ 255) (a0 : 0 ≤ a ∧ a ≤ 255) (b0 : 0 ≤ b ∧ b ≤ 255) (f0 : 0 ≤ f ∧ f ≤ 255) (kd0 : 0 ≤ kd ∧ kd ≤ 255) (hm : xs.length = n) (hl : n ≤ 1000) (hnil : ao = none → cap = 0) (hrd : Reads w0 ao (xs.map (.int .u8)))
    (w : World) (h : LA w0 P 250 x noK w) :
    Calls Tryz.prog 18 #[.pointer (some ⟨P.b, 0, none⟩), .agg #[.int .u8 k, .int .u8 a, .int .u8 b, .int .u8 f, .bool p, .bool q, .int .u8 kd, .int .u8 st, .bool wd, .slice ao n cap]] w fun e w' => e = .returned (.tuple #[]) ∧ ∃ x', DoR x x' ∧ LA w0 P 250 x' noK w' := by
  have HA : Hid (LA w0 P 250 x (Bx w.heap.size (actV k a b f p q kd st wd (.slice ao n cap))) (w.alloc (.cells #[.int .u8 k, .int .u8 a, .int .u8 b, .int .u8 f, .bool p, .bool q, .int .u8 kd, .int .u8 st, .bool wd, .slice ao n cap] 34))) := h.bx (actV k a b f p q kd st wd (.slice ao n cap))
  have HF : Hid (x.told.length ≤ 730 ∧ (0 ≤ x.fl ∧ x.fl ≤ 730) ∧ Iv x) := ⟨by omega, by omega, hI⟩
  have hkm : k.tmod 16 = k % 16 := Int.tmod_eq_emod_of_nonneg k0.1
  have ham : a.tmod 13 = a % 13 ∧ a.tmod 6 = a % 6 ∧ a.tmod 3 = a % 3 ∧ a.tmod 16 = a % 16 := ⟨Int.tmod_eq_emod_of_nonneg a0.1, Int.tmod_eq_emod_of_nonneg a0.1, Int.tmod_eq_emod_of_nonneg a0.1, Int.tmod_eq_emod_of_nonneg a0.1⟩
  have hbm : b.tmod 128 = b % 128 := Int.tmod_eq_emod_of_nonneg b0.1
  have hfm : f.tmod 128 = f % 128 := Int.tmod_eq_emod_of_nonneg f0.1
  have hdm : kd.tmod 3 = kd % 3 := Int.tmod_eq_emod_of_nonneg kd0.1
  obtain ⟨am13, am6, am3, am16⟩ := ham
  obtain ⟨κ, hκ⟩ : ∃ κ, k % 16 = κ := ⟨_, rfl⟩
  have hκ16 : 0 ≤ κ ∧ κ < 16 := by omega
  rw [hκ] at hkm
  have HLX : Hid (xs.length = n ∧ n ≤ 1000 ∧ (ao = none → cap = 0) ∧ Reads w0 ao (xs.map (.int .u8))) := ⟨hm, hl, hnil, hrd⟩
  clear hκ ht hf hI h hm hl hnil hrd
  go_enter Tryz.func18, Tryz.ntmps18
  go_upto_region 1 with fail
  generalize w.alloc (.cells #[.int .u8 k, .int .u8 a, .int .u8 b, .int .u8 f, .bool p, .bool q, .int .u8 kd, .int .u8 st, .bool wd, .slice ao n cap] 34) = W at *
  generalize w.heap.size = g at *
  obtain ⟨c0, c1, c6, -⟩ := HA.out.the fun T e => bx_cells e
  by_cases h4 : κ < 4
  · have d4 : decide (κ < 4) = true := decide_eq_true h4
    have hBa : Below W.heap.size W (W.alloc (.cells #[.int .u8 a, .int .u8 1, .int .u8 2] 5)) := (Below.refl _ _).alloc (Nat.le_refl _) _
    have hor := LA.order (k := 248) (HA.out.keep hBa) (a % 13) (some ⟨W.heap.size, 0, none⟩) 3 3 [a, 1, 2] rfl (by omega) (oct3 W a 1 2) (by simp; omega)
    have HR := hidD (ord_do HF.out.2.2 (a % 13) [a, 1, 2])
    clear hBa HA h4
    go_wp2_with fail
    refine hor.mono ?_
    rintro e w3 ⟨rfl, hA⟩
    have HA3 := (show Hid _ from (LA.room hA (DoR.room HR.out HF.out.1 HF.out.2.1)).no)
    clear hor hA
    go_wp2_with fail
    refine bodyPost_end (results_none rfl _ _ _) rfl ?_
    exact ⟨rfl, _, HR.out, HA3.out⟩
  have d4 : decide (κ < 4) = false := decide_eq_false h4
  by_cases h7 : κ < 7
  · have d7 : decide (κ < 7) = true := decide_eq_true h7
    have hlk := link_any (a % 6) W
    clear h4 h7
    go_wp2_with fail
    refine hlk.mono ?_
    rintro e w3 ⟨rfl, hB⟩
    have hhe := LA.hear0 (k := 240) (HA.out.keep hB) 127 127 1 (a % 6) true true false (by decide) (by decide)
    clear hlk hB HA
    go_wp2_with fail
    refine hhe.mono ?_
    rintro e w4 ⟨rfl, q1, hA⟩
    have HR := hidD (hear_do HF.out.2.2 127 127 1 (a % 6) true true q1)
    have HA3 := (show Hid _ from (LA.room hA (DoR.room HR.out HF.out.1 HF.out.2.1)).no)
    clear hhe hA
    go_wp2_with fail
    refine bodyPost_end (results_none rfl _ _ _) rfl ?_
    exact ⟨rfl, _, HR.out, HA3.out⟩
  have d7 : decide (κ < 7) = false := decide_eq_false h7
  by_cases h7e : κ = 7
  · subst h7e
    have hdm := LA.damage (k := 247) HA.out
    have HR := hidD (damage_do HF.out.2.2)
    clear HA h4 h7
    go_wp2_with fail
    refine hdm.mono ?_
    rintro e w3 ⟨rfl, hA⟩
    have HA3 := (show Hid _ from (LA.room hA (DoR.room HR.out HF.out.1 HF.out.2.1)).no)
    clear hdm hA
    go_wp2_with fail
    refine bodyPost_end (results_none rfl _ _ _) rfl ?_
    exact ⟨rfl, _, HR.out, HA3.out⟩
  have e7 : (κ == 7) = false := by rw [beq_eq_false_iff_ne]; exact h7e
  by_cases h10 : κ < 10
  · have d10 : decide (κ < 10) = true := decide_eq_true h10
    have hfi := lfill_any W
    clear h4 h7 h7e h10
    go_wp2_with fail
    refine hfi.mono ?_
    rintro e w3 ⟨rfl, hB3⟩
    have hA3 := HA.out.keep hB3
    obtain ⟨W4, hst4, hB4, hh4⟩ := kept_any w3 #[.int .u8 127, .int .u8 127, .bool true, .bool true, .int .u8 0, .int .u8 0, .bool false, .slice none 0 0] rfl (by simp [Value.oneCell'])
    have hA4 := hA3.box hB4 hh4
    have hw3 := hA3.below.size
    have hgW : g < w3.heap.size := hA3.the fun T e => heap_lt e.1
    obtain ⟨-, -, c6', -⟩ := hA4.the fun T e => bx_cells e.1
    have hA5 : LA w0 P 250 x (andK (Bx g (actV k a b f p q kd st wd (.slice ao n cap))) (Box w3.heap.size #[.int .u8 127, .int .u8 127, .bool true, .bool true, .int .u8 (kd % 3), .int .u8 0, .bool false, .slice none 0 0])) (W4.setCell ⟨w3.heap.size, 4, none⟩ (.int .u8 (kd % 3))) := hA4.put 4 (.int .u8 (kd % 3)) hw3 (stays_bx _ _) (fun T e => bx_put (by omega) e)
    have u4 := (unit_cells hh4).1.2.2.2.2.1
    have z4 := (unit_cells hh4).2 4
    clear hfi HA hB3 hA3 hB4 hA4 c0 c1 c6
    go_upto_region 12 with fail
    generalize W4.setCell ⟨w3.heap.size, 4, none⟩ (.int .u8 (kd % 3)) = W5 at *
    clear hst4 hh4 u4 z4 c6'
    obtain ⟨-, c1, -, -⟩ := hA5.the fun T e => bx_cells e.1
    have v4 := (unit_cells hA5.boxed).1.2.2.2.2.1
    have v1 := (unit_cells hA5.boxed).1.2.1
    have y1 := (unit_cells hA5.boxed).2 1
    by_cases h2 : kd % 3 = 2
    · have e2 : (kd % 3 == 2) = true := by rw [beq_iff_eq]; exact h2
      have hB6 : Below W5.heap.size W5 (W5.alloc (.cells #[.int .u8 a, .int .u8 2, .int .u8 3] 5)) := (Below.refl _ _).alloc (Nat.le_refl _) _
      have hlt6 : w3.heap.size < W5.heap.size := heap_lt hA5.boxed
      have hA6 : LA w0 P 250 x (andK (andK (Bx g (actV k a b f p q kd st wd (.slice ao n cap))) (Oct W5.heap.size [a, 2, 3])) (Box w3.heap.size #[.int .u8 127, .int .u8 127, .bool true, .bool true, .int .u8 (kd % 3), .int .u8 0, .bool false, .slice none 0 0])) (W5.alloc (.cells #[.int .u8 a, .int .u8 2, .int .u8 3] 5)) := (hA5.oct hB6 (oct3 W5 a 2 3) (by simp)).to (stays_and (stays_and (stays_bx _ _) (stays_oct _ _)) (stays_box _ _)) fun _ _ e => ⟨⟨e.1.1, e.2⟩, e.1.2⟩
      have hA7 : LA w0 P 250 x (andK (andK (Bx g (actV k a b f p q kd st wd (.slice ao n cap))) (Oct W5.heap.size [a, 2, 3])) (Box w3.heap.size #[.int .u8 127, .int .u8 127, .bool true, .bool true, .int .u8 (kd % 3), .int .u8 0, .bool false, .slice (some ⟨W5.heap.size, 0, none⟩) 3 3])) ((W5.alloc (.cells #[.int .u8 a, .int .u8 2, .int .u8 3] 5)).setCell ⟨w3.heap.size, 7, none⟩ (.slice (some ⟨W5.heap.size, 0, none⟩) 3 3)) := hA6.put 7 (.slice (some ⟨W5.heap.size, 0, none⟩) 3 3) hw3 (stays_and (stays_bx _ _) (stays_oct _ _)) (fun T e => ⟨bx_put (by omega) e.1, oct_put (by omega) e.2⟩)
      have u7 := (unit_cells hA6.boxed).1.2.2.2.2.2.2.2
      have z7 := (unit_cells hA6.boxed).2 7
      have HNE : Hid (¬ W5.heap.size = w3.heap.size ∧ ¬ g = w3.heap.size) := by show ¬ _ ∧ ¬ _; omega
      clear hA5 hB6 hlt6 hA6 hgW
      go_upto_region 14 with fail
      generalize (W5.alloc (.cells #[.int .u8 a, .int .u8 2, .int .u8 3] 5)).setCell ⟨w3.heap.size, 7, none⟩ (.slice (some ⟨W5.heap.size, 0, none⟩) 3 3) = W7 at *
      clear u7 z7 h2
      generalize W5.heap.size = g5 at *
      generalize w3.heap.size = g3 at *
      have hAd := hA7.keep (Below.refl _ _).drew
      have hta := hAd.taken
      obtain ⟨-, -, -, c4, -⟩ := hAd.all
      obtain ⟨-, c1', -, -⟩ := hAd.the fun T e => bx_cells e.1.1
      have v1' := (unit_cells hAd.boxed).1.2.1
      have y1' := (unit_cells hAd.boxed).2 1
      have HX : Hid (∀ F : Int, LA w0 P 250 x (andK (andK (Bx g (actV k a b f p q kd st wd (.slice ao n cap))) (Oct g5 [a, 2, 3])) (Box g3 #[.int .u8 127, .int .u8 F, .bool true, .bool true, .int .u8 (kd % 3), .int .u8 0, .bool false, .slice (some ⟨g5, 0, none⟩) 3 3])) (W7.setCell ⟨g3, 1, none⟩ (.int .u8 F)).drew) := fun F => (hA7.put 1 (.int .u8 F) hw3 (stays_and (stays_bx _ _) (stays_oct _ _)) (fun T e => ⟨bx_put HNE.out.2 e.1, oct_put HNE.out.1 e.2⟩)).keep (Below.refl _ _).drew
      have HS : Hid (∀ F : Int, (W7.setCell ⟨g3, 1, none⟩ (.int .u8 F)).drew.cell? ⟨P.b, 4, none⟩ = some (.iface (wT P.cy) (.pointer (some ⟨P.p, 0, none⟩))) ∧ (W7.setCell ⟨g3, 1, none⟩ (.int .u8 F)).drew.cell? ⟨g, 1, none⟩ = some (.int .u8 a)) := fun F => ⟨(HX.out F).all.2.2.2.1, ((HX.out F).the fun T e => bx_cells e.1.1).2.1⟩
      have hS : W7.drew.cell? ⟨P.b, 4, none⟩ = some (.iface (wT P.cy) (.pointer (some ⟨P.p, 0, none⟩))) ∧ W7.drew.cell? ⟨g, 1, none⟩ = some (.int .u8 a) := ⟨c4, c1'⟩
      clear c1' c4 hAd
      clear c1 v4 v1 y1 hA7
      go_region_held (fun Y => Y.cell? ⟨P.b, 4, none⟩ = some (.iface (wT P.cy) (.pointer (some ⟨P.p, 0, none⟩))) ∧ Y.cell? ⟨g, 1, none⟩ = some (.int .u8 a)) ((first | assumption | exact HS.out _))
        (with_reducible change Calls Tryz.prog (fTaken _) _ _ _; refine hta.mono ?_; rintro e w9 ⟨rfl, hw9⟩; obtain rfl := hw9.symm; clear hw9)
      all_goals
        clear hta v1' y1' hS
        have hA8 := HX.out (IntKind.u8.wrap ((IntKind.i64.wrap (IntKind.i64.wrap x.wt.last + IntKind.i64.wrap (a % 3))).tmod 128))
        generalize (IntKind.u8.wrap ((IntKind.i64.wrap (IntKind.i64.wrap x.wt.last + IntKind.i64.wrap (a % 3))).tmod 128)) = F at *
        generalize (W7.setCell ⟨g3, 1, none⟩ (.int .u8 F)).drew = W8 at *
        have hho := hA8.hold
        have hfs := hA8.first
        obtain ⟨-, -, -, c4, -⟩ := hA8.all
        have u0 := (unit_cells hA8.boxed).1.1
        have z0 := (unit_cells hA8.boxed).2 0
        obtain ⟨L, hL⟩ : ∃ L : Int, ((x.hs.first : Int) + 127).tmod 128 = L := ⟨_, rfl⟩
        have hL2 : 0 ≤ L ∧ L ≤ 127 := by rw [Int.tmod_eq_emod_of_nonneg (by omega)] at hL; omega
        have hLw : IntKind.u8.wrap L = L := IntWalk.u8_in _ (by omega)
        have hfw : (x.hs.first : Int) ≤ 255 := by obtain ⟨T0, hh⟩ := hA8.holdAt; have := hh.fine.first; omega
        have hfw1 : IntKind.i64.wrap (x.hs.first : Int) = x.hs.first := IntWalk.i64_in _ (by omega)
        have hfw2 : IntKind.i64.wrap ((x.hs.first : Int) + 127) = (x.hs.first : Int) + 127 := IntWalk.i64_in _ (by omega)
        have hA9 : LA w0 P 250 x (andK (andK (Bx g (actV k a b f p q kd st wd (.slice ao n cap))) (Oct g5 [a, 2, 3])) (Box g3 #[.int .u8 L, .int .u8 F, .bool true, .bool true, .int .u8 (kd % 3), .int .u8 0, .bool false, .slice (some ⟨g5, 0, none⟩) 3 3])) (W8.setCell ⟨g3, 0, none⟩ (.int .u8 L)) := hA8.put 0 (.int .u8 L) hw3 (stays_and (stays_bx _ _) (stays_oct _ _)) (fun T e => ⟨bx_put HNE.out.2 e.1, oct_put HNE.out.1 e.2⟩)
        have hlu := (ld_unit hA9.boxed rfl).1
        have hhe := LA.hearO (k := 240) hA9 (fun T e => e.1.2) L F (kd % 3) 0 true true false 3 3 (by omega) (by omega) rfl (by decide)
        have HR2 : Hid (∀ q1, DoR x (x.hear L F (kd % 3) 0 true true q1)) := fun q1 => hear_do HF.out.2.2 L F (kd % 3) 0 true true q1
        generalize (x.hs.first : Int) = fst at *
        clear hA8 hA9 HX HS
        go_wp2_with fail
        with_reducible change Calls Tryz.prog (fHold _) _ _ _
        refine hho.mono ?_
        rintro e w9 ⟨rfl, hw9⟩
        obtain rfl := hw9.symm
        clear hw9 hho
        go_wp2_with fail
        refine hfs.mono ?_
        rintro e w9 ⟨rfl, hw9⟩
        obtain rfl := hw9.symm
        clear hw9 hfs
        go_upto_region 16 with fail
        clear u0 z0 c4
        go_wp2_with fail
        refine hhe.mono ?_
        rintro e w10 ⟨rfl, q1, hA⟩
        have HR := hidD (HR2.out q1)
        have HA3 := (show Hid _ from (LA.room hA (DoR.room HR.out HF.out.1 HF.out.2.1)).no)
        clear hhe hlu hA HR2
        go_wp2_with fail
        refine bodyPost_end (results_none rfl _ _ _) rfl ?_
        exact ⟨rfl, _, HR.out, HA3.out⟩
    · have e2 : (kd % 3 == 2) = false := by rw [beq_eq_false_iff_ne]; exact h2
      have HNE : Hid (¬ g = w3.heap.size) := by show ¬ _; omega
      clear hgW
      generalize w3.heap.size = g3 at *
      clear h2
      have hAd := hA5.keep (Below.refl _ _).drew
      have hta := hAd.taken
      obtain ⟨-, -, -, c4, -⟩ := hAd.all
      obtain ⟨-, c1', -, -⟩ := hAd.the fun T e => bx_cells e.1
      have v1' := (unit_cells hAd.boxed).1.2.1
      have y1' := (unit_cells hAd.boxed).2 1
      have HX : Hid (∀ F : Int, LA w0 P 250 x (andK (Bx g (actV k a b f p q kd st wd (.slice ao n cap))) (Box g3 #[.int .u8 127, .int .u8 F, .bool true, .bool true, .int .u8 (kd % 3), .int .u8 0, .bool false, .slice none 0 0])) (W5.setCell ⟨g3, 1, none⟩ (.int .u8 F)).drew) := fun F => (hA5.put 1 (.int .u8 F) hw3 (stays_bx _ _) (fun T e => bx_put HNE.out e)).keep (Below.refl _ _).drew
      have HS : Hid (∀ F : Int, (W5.setCell ⟨g3, 1, none⟩ (.int .u8 F)).drew.cell? ⟨P.b, 4, none⟩ = some (.iface (wT P.cy) (.pointer (some ⟨P.p, 0, none⟩))) ∧ (W5.setCell ⟨g3, 1, none⟩ (.int .u8 F)).drew.cell? ⟨g, 1, none⟩ = some (.int .u8 a)) := fun F => ⟨(HX.out F).all.2.2.2.1, ((HX.out F).the fun T e => bx_cells e.1).2.1⟩
      have hS : W5.drew.cell? ⟨P.b, 4, none⟩ = some (.iface (wT P.cy) (.pointer (some ⟨P.p, 0, none⟩))) ∧ W5.drew.cell? ⟨g, 1, none⟩ = some (.int .u8 a) := ⟨c4, c1'⟩
      clear c1' c4 hAd
      go_upto_region 14 with fail
      clear c1 v4 v1 y1 hA5
      go_region_held (fun Y => Y.cell? ⟨P.b, 4, none⟩ = some (.iface (wT P.cy) (.pointer (some ⟨P.p, 0, none⟩))) ∧ Y.cell? ⟨g, 1, none⟩ = some (.int .u8 a)) ((first | assumption | exact HS.out _))
        (with_reducible change Calls Tryz.prog (fTaken _) _ _ _; refine hta.mono ?_; rintro e w9 ⟨rfl, hw9⟩; obtain rfl := hw9.symm; clear hw9)
      all_goals
        clear hta v1' y1' hS
        have hA8 := HX.out (IntKind.u8.wrap ((IntKind.i64.wrap (IntKind.i64.wrap x.wt.last + IntKind.i64.wrap (a % 3))).tmod 128))
        generalize (IntKind.u8.wrap ((IntKind.i64.wrap (IntKind.i64.wrap x.wt.last + IntKind.i64.wrap (a % 3))).tmod 128)) = F at *
        generalize (W5.setCell ⟨g3, 1, none⟩ (.int .u8 F)).drew = W8 at *
        have hho := hA8.hold
        have hfs := hA8.first
        obtain ⟨-, -, -, c4, -⟩ := hA8.all
        have u0 := (unit_cells hA8.boxed).1.1
        have z0 := (unit_cells hA8.boxed).2 0
        obtain ⟨L, hL⟩ : ∃ L : Int, ((x.hs.first : Int) + 127).tmod 128 = L := ⟨_, rfl⟩
        have hL2 : 0 ≤ L ∧ L ≤ 127 := by rw [Int.tmod_eq_emod_of_nonneg (by omega)] at hL; omega
        have hLw : IntKind.u8.wrap L = L := IntWalk.u8_in _ (by omega)
        have hfw : (x.hs.first : Int) ≤ 255 := by obtain ⟨T0, hh⟩ := hA8.holdAt; have := hh.fine.first; omega
        have hfw1 : IntKind.i64.wrap (x.hs.first : Int) = x.hs.first := IntWalk.i64_in _ (by omega)
        have hfw2 : IntKind.i64.wrap ((x.hs.first : Int) + 127) = (x.hs.first : Int) + 127 := IntWalk.i64_in _ (by omega)
        have hA9 : LA w0 P 250 x (andK (Bx g (actV k a b f p q kd st wd (.slice ao n cap))) (Box g3 #[.int .u8 L, .int .u8 F, .bool true, .bool true, .int .u8 (kd % 3), .int .u8 0, .bool false, .slice none 0 0])) (W8.setCell ⟨g3, 0, none⟩ (.int .u8 L)) := hA8.put 0 (.int .u8 L) hw3 (stays_bx _ _) (fun T e => bx_put HNE.out e)
        have hlu := (ld_unit hA9.boxed rfl).1
        have hhe := LA.hear0 (k := 240) hA9 L F (kd % 3) 0 true true false (by omega) (by omega)
        have HR2 : Hid (∀ q1, DoR x (x.hear L F (kd % 3) 0 true true q1)) := fun q1 => hear_do HF.out.2.2 L F (kd % 3) 0 true true q1
        generalize (x.hs.first : Int) = fst at *
        clear hA8 hA9 HX HS
        go_wp2_with fail
        with_reducible change Calls Tryz.prog (fHold _) _ _ _
        refine hho.mono ?_
        rintro e w9 ⟨rfl, hw9⟩
        obtain rfl := hw9.symm
        clear hw9 hho
        go_wp2_with fail
        refine hfs.mono ?_
        rintro e w9 ⟨rfl, hw9⟩
        obtain rfl := hw9.symm
        clear hw9 hfs
        go_upto_region 16 with fail
        clear u0 z0 c4
        go_wp2_with fail
        refine hhe.mono ?_
        rintro e w10 ⟨rfl, q1, hA⟩
        have HR := hidD (HR2.out q1)
        have HA3 := (show Hid _ from (LA.room hA (DoR.room HR.out HF.out.1 HF.out.2.1)).no)
        clear hhe hlu hA HR2
        go_wp2_with fail
        refine bodyPost_end (results_none rfl _ _ _) rfl ?_
        exact ⟨rfl, _, HR.out, HA3.out⟩
  have d10 : decide (κ < 10) = false := decide_eq_false h10
  by_cases h10e : κ = 10
  · subst h10e
    obtain ⟨-, -, -, hld⟩ := HA.out.the fun T e => bx_cells e
    obtain ⟨W4, hst4, hB4, hh4⟩ := kept_any W #[.int .u8 b, .int .u8 f, .bool p, .bool q, .int .u8 kd, .int .u8 st, .bool wd, .slice ao n cap] rfl (by simp [Value.oneCell'])
    have hA4 := HA.out.box hB4 hh4
    have hw3 := HA.out.below.size
    have hgW : g < W.heap.size := HA.out.the fun T e => heap_lt e.1
    have hA5 : LA w0 P 250 x (andK (Bx g (actV k a b f p q kd st wd (.slice ao n cap))) (Box W.heap.size #[.int .u8 (b % 128), .int .u8 f, .bool p, .bool q, .int .u8 kd, .int .u8 st, .bool wd, .slice ao n cap])) (W4.setCell ⟨W.heap.size, 0, none⟩ (.int .u8 (b % 128))) := hA4.put 0 (.int .u8 (b % 128)) hw3 (stays_bx _ _) (fun T e => bx_put (by omega) e)
    have hA6 : LA w0 P 250 x (andK (Bx g (actV k a b f p q kd st wd (.slice ao n cap))) (Box W.heap.size #[.int .u8 (b % 128), .int .u8 (f % 128), .bool p, .bool q, .int .u8 kd, .int .u8 st, .bool wd, .slice ao n cap])) ((W4.setCell ⟨W.heap.size, 0, none⟩ (.int .u8 (b % 128))).setCell ⟨W.heap.size, 1, none⟩ (.int .u8 (f % 128))) := hA5.put 1 (.int .u8 (f % 128)) hw3 (stays_bx _ _) (fun T e => bx_put (by omega) e)
    have hA7 : LA w0 P 250 x (andK (Bx g (actV k a b f p q kd st wd (.slice ao n cap))) (Box W.heap.size #[.int .u8 (b % 128), .int .u8 (f % 128), .bool p, .bool q, .int .u8 (kd % 3), .int .u8 st, .bool wd, .slice ao n cap])) (((W4.setCell ⟨W.heap.size, 0, none⟩ (.int .u8 (b % 128))).setCell ⟨W.heap.size, 1, none⟩ (.int .u8 (f % 128))).setCell ⟨W.heap.size, 4, none⟩ (.int .u8 (kd % 3))) := hA6.put 4 (.int .u8 (kd % 3)) hw3 (stays_bx _ _) (fun T e => bx_put (by omega) e)
    have u0 := (unit_cells hh4).1.1
    have z0 := (unit_cells hh4).2 0
    have u1 := (unit_cells hA5.boxed).1.2.1
    have z1 := (unit_cells hA5.boxed).2 1
    have u4 := (unit_cells hA6.boxed).1.2.2.2.2.1
    have z4 := (unit_cells hA6.boxed).2 4
    have HA7 := (show Hid _ from hA7)
    have hlu := (ld_unit hA7.boxed rfl).1
    have hhe := LA.hear (k := 240) hA7 (b % 128) (f % 128) (kd % 3) st p q wd ao n cap xs (by omega) (by omega) HLX.out.1 (hA7.info HLX.out.2.2.2 (by have := HLX.out; omega) HLX.out.2.2.1)
    clear HA hB4 hh4 hA4 hA5 hA6 hA7 hw3 hgW h4 h7 h7e h10
    go_upto_region 22 with fail
    clear hst4 u0 z0 u1 z1 u4 z4
    go_wp2_with fail
    refine hhe.mono ?_
    rintro e w5 ⟨rfl, q1, hA⟩
    have HR := hidD (hear_do HF.out.2.2 (b % 128) (f % 128) (kd % 3) st p q q1)
    have HA3 := (show Hid _ from (LA.room hA (DoR.room HR.out HF.out.1 HF.out.2.1)).no)
    clear hhe hlu hA HA7
    go_wp2_with fail
    refine bodyPost_end (results_none rfl _ _ _) rfl ?_
    exact ⟨rfl, _, HR.out, HA3.out⟩
  have e10 : (κ == 10) = false := by rw [beq_eq_false_iff_ne]; exact h10e
  by_cases h11 : κ = 11
  · subst h11
    obtain ⟨m, hm⟩ : ∃ m : Nat, a % 16 = (m : Int) := ⟨(a % 16).toNat, by omega⟩
    have hm16 : m < 16 := by omega
    rw [hm] at am16
    have HA0 : Hid (LA w0 P 250 (x.tks 0) (Bx g (actV k a b f p q kd st wd (.slice ao n cap))) W) := HA.out
    clear HA hm h4 h7 h7e h10 h10e
    go_wp2_with fail
    go_loopw [7] (fun i wr => ∃ j : Nat, j ≤ m ∧ i = .int .i64 j ∧ Hid (LA w0 P 250 (x.tks j) (Bx g (actV k a b f p q kd st wd (.slice ao n cap))) wr)) (fun i _ => m - (intOf i).toNat)
    case atStart => exact ⟨0, by omega, rfl, HA0⟩
    case round =>
      clear HA0 c0 c1 c6
      obtain ⟨j, hj, rfl, HA⟩ := hrel
      obtain ⟨-, c1, -, -⟩ := HA.out.the fun T e => bx_cells e
      by_cases hl : j < m
      · have hd : decide ((j : Int) < (m : Int)) = true := by rw [decide_eq_true_iff]; omega
        have hti := LA.tick (k := 234) HA.out
        clear HA
        go_wp2_with fail
        refine hti.mono ?_
        rintro e w8 ⟨rfl, hA⟩
        have HA8 : Hid (LA w0 P 250 (x.tks (j + 1)) (Bx g (actV k a b f p q kd st wd (.slice ao n cap))) w8) := LA.room (x := x.tks (j + 1)) hA (DoR.room (tks_do HF.out.2.2 (j + 1)) HF.out.1 HF.out.2.1)
        clear hti hA
        go_wp2_with fail
        go_roundw
        case rel => exact ⟨j + 1, by omega, by go_num, HA8⟩
        case measure => simp [intOf]; omega
      · have hd : decide ((j : Int) < (m : Int)) = false := by rw [decide_eq_false_iff_not]; omega
        have HA3 := (show Hid _ from HA.out.no)
        have HR := hidD (tks_do HF.out.2.2 j)
        clear HA
        go_wp2_with fail
        refine bodyPost_end (results_none rfl _ _ _) rfl ?_
        exact ⟨rfl, _, HR.out, HA3.out⟩
  have e11 : (κ == 11) = false := by rw [beq_eq_false_iff_ne]; exact h11
  by_cases h14 : κ < 14
  · have d14 : decide (κ < 14) = true := decide_eq_true h14
    have hnx := HA.out.next
    have HR := hidD (next_do HF.out.2.2)
    clear HA h4 h7 h7e h10 h10e h11 h14
    go_wp2_with fail
    refine hnx.mono ?_
    rintro e w3 ⟨⟨a', b', c', d', ao', n', cap', rfl⟩, hA⟩
    have HA3 := (show Hid _ from (LA.room hA (DoR.room HR.out HF.out.1 HF.out.2.1)).no)
    clear hnx hA
    go_wp2_with fail
    refine bodyPost_end (results_none rfl _ _ _) rfl ?_
    exact ⟨rfl, _, HR.out, HA3.out⟩
  · have d14 : decide (κ < 14) = false := decide_eq_false h14
    have hti := LA.tick (k := 234) HA.out
    have HR := hidD (tick_do HF.out.2.2)
    clear HA h4 h7 h7e h10 h10e h11 h14
    go_wp2_with fail
    refine hti.mono ?_
    rintro e w3 ⟨rfl, hA⟩
    have HA3 := (show Hid _ from (LA.room hA (DoR.room HR.out HF.out.1 HF.out.2.1)).no)
    clear hti hA
    go_wp2_with fail
    refine bodyPost_end (results_none rfl _ _ _) rfl ?_
    exact ⟨rfl, _, HR.out, HA3.out⟩
end Go.Proofs.YtldjglmelbkngaaGreat.Tape
