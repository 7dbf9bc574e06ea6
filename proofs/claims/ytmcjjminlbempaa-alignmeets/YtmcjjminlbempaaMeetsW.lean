/- The walk of the law AlignMeets. -/
import Derived.Test.YtmcjjminlbempaaMeet3
import Derived.Deep.RegionHeld3
import Derived.Deep.CutBlock
import Derived.Deep.AppendLies
import Derived.Deep.RegionLaw
namespace Go.Proofs.Ytmcjjminlbempaa.Tape
open Go.ChangeShapes Go.WideShapes Go.ChangeAt Go.RowKit
set_option linter.unusedVariables false

attribute [local go_sem ↓] ldSt_def

set_option maxRecDepth 100000 in
set_option maxHeartbeats 4000000 in
theorem meets_walk (o p : Bool) (y z : Int) (w : World) (hy : 0 ≤ y ∧ y ≤ 255) (hz : 0 ≤ z ∧ z ≤ 255) :
    Calls Try.prog 4 #[.bool o, .bool p, .int .u8 y, .int .u8 z] w fun e w' => e = .returned (.bool true) ∧ Below w.heap.size w w' := by
  have haw := awake14_any w
  obtain ⟨dm, hdm⟩ : ∃ dm : Nat, y.tmod 40 = (dm : Int) := ⟨(y % 40).toNat, by rw [Int.tmod_eq_emod_of_nonneg hy.1]; omega⟩
  obtain ⟨g, hg⟩ : ∃ g : Nat, z.tmod 60 = (g : Int) := ⟨(z % 60).toNat, by rw [Int.tmod_eq_emod_of_nonneg hz.1]; omega⟩
  have hdm40 : dm < 40 := by have := hdm; rw [Int.tmod_eq_emod_of_nonneg hy.1] at this; omega
  have hg60 : g < 60 := by have := hg; rw [Int.tmod_eq_emod_of_nonneg hz.1] at this; omega
  obtain ⟨d, hd⟩ : ∃ d : Nat, d = 1 + dm := ⟨_, rfl⟩
  have hdi : (1 : Int) + (dm : Int) = (d : Int) := by omega
  have hd1 : 1 ≤ d ∧ d ≤ 40 := by omega
  obtain ⟨y0, y1⟩ := hy
  obtain ⟨z0, z1⟩ := hz
  have HD : Hid (d = 1 + dm) := hd
  clear hd hdm40
  go_enter Try.func4, Try.ntmps4
  go_wp2_with (go_at_call 8; refine haw.mono ?_; rintro e w1 ⟨rfl, hB1⟩)
  refine (usual_any false _).mono ?_
  rintro e w2 ⟨rfl, hU⟩
  have hB2 := hB1.trans (hU.mono hB1.size)
  clear haw hU hB1
  go_wp2_with fail
  obtain ⟨W, hW⟩ : ∃ W, W = (((w2.alloc (.cells #[.bool false, .int .i64 8, .int .i64 300, .int .i64 16, .int .i64 600, .int .i64 30, .int .i64 999, .int .i64 900, .int .i64 900, .int .i64 50, .int .i64 5, .int .i64 9, .int .i64 9] 26)).alloc (.cells #[.pointer none, .pointer none] 48)).alloc (.cells #[.pointer none, .pointer none] 49)) := ⟨_, rfl⟩
  have hI : Far w W w2.heap.size (w2.heap.size + 1) (w2.heap.size + 1 + 1) 0 := by
    refine .inl ⟨rfl, ?_, hB2.size, by omega, by omega, ?_, ?_, ?_, ?_⟩
    · rw [hW]; exact ((hB2.alloc hB2.size _).alloc (by have := hB2.size; simp; omega) _).alloc (by have := hB2.size; simp; omega) _
    · rw [hW]; simp
    · rw [hW]; exact heap_more (heap_more (heap_alloc_new w2 _) _) _
    · rw [hW]
      have := heap_alloc_new (w2.alloc (.cells #[.bool false, .int .i64 8, .int .i64 300, .int .i64 16, .int .i64 600, .int .i64 30, .int .i64 999, .int .i64 900, .int .i64 900, .int .i64 50, .int .i64 5, .int .i64 9, .int .i64 9] 26)) (.cells #[.pointer none, .pointer none] 48)
      rw [show (w2.alloc (.cells #[.bool false, .int .i64 8, .int .i64 300, .int .i64 16, .int .i64 600, .int .i64 30, .int .i64 999, .int .i64 900, .int .i64 900, .int .i64 50, .int .i64 5, .int .i64 9, .int .i64 9] 26)).heap.size = w2.heap.size + 1 by simp] at this
      exact heap_more this _
    · rw [hW]
      have := heap_alloc_new ((w2.alloc (.cells #[.bool false, .int .i64 8, .int .i64 300, .int .i64 16, .int .i64 600, .int .i64 30, .int .i64 999, .int .i64 900, .int .i64 900, .int .i64 50, .int .i64 5, .int .i64 9, .int .i64 9] 26)).alloc (.cells #[.pointer none, .pointer none] 48)) (.cells #[.pointer none, .pointer none] 49)
      rwa [show ((w2.alloc (.cells #[.bool false, .int .i64 8, .int .i64 300, .int .i64 16, .int .i64 600, .int .i64 30, .int .i64 999, .int .i64 900, .int .i64 900, .int .i64 50, .int .i64 5, .int .i64 9, .int .i64 9] 26)).alloc (.cells #[.pointer none, .pointer none] 48)).heap.size = w2.heap.size + 1 + 1 by simp] at this
  rw [← hW]
  generalize w2.heap.size + 1 + 1 = ab at *
  generalize w2.heap.size + 1 = cb at *
  generalize w2.heap.size = sb at *
  clear hW hB2
  go_loopw [14] (fun i wr => ∃ m : Nat, m ≤ 2 ∧ i = .int .i64 m ∧ Far w wr sb cb ab m) (fun i _ => 2 - (intOf i).toNat)
  case atStart => exact ⟨0, by omega, rfl, hI⟩
  case round =>
    clear hI
    obtain ⟨m, hm, rfl, hF⟩ := hrel
    rcases hF with ⟨rfl, hI⟩ | ⟨rfl, c0, b0, k1, k2, hI, hA0⟩ | ⟨rfl, c0, b0, c1, b1, k1, k2, k3, k4, hI, hA0, hA1⟩
    · obtain ⟨c, hc⟩ : ∃ c, c = wr.heap.size := ⟨_, rfl⟩
      obtain ⟨hI2, hc2, hs2⟩ := hI.clock 0 c hc (pt c) (.pointer none) rfl
      obtain ⟨a0, a1, az0, az1⟩ := two_cell hI.cc
      have hblt := heap_lt hI.cc
      have hlt0 := hI.lt
      obtain ⟨W1, hW1⟩ : ∃ W1, W1 = ((wr.setCell ⟨cb, 0, none⟩ (pt c)).alloc (.cells #[.int .i64 0, .int .i64 0, .int .i64 0, .int .i64 0, .int .i64 0, .int .i64 0, .int .i64 0, .int .i64 0] 30)) := ⟨_, rfl⟩
      rw [← hW1] at hI2 hc2 hs2
      unfold pt at hW1
      have HL : Hid (ab < c ∧ W1.heap.size = c + 1) := ⟨by omega, hs2⟩
      have hID := hI2.same (Below.refl W1.heap.size W1).drew
      have hnw := alm_any c W1.drew (hc2.at_ rfl)
      have HI : Hid (Ini w W1.drew sb cb ab (pt c) (.pointer none) (.pointer none) (.pointer none)) := hID
      have HS : Hid (∀ Y : World, Ini w Y sb cb ab (pt c) (.pointer none) (.pointer none) (.pointer none) → (ldSt (.pointer (some ⟨sb, 0, none⟩))).run Try.prog Y = .ok (.agg mS) Y ∧ Y.cell? ⟨cb, 0, none⟩ = some (.pointer (some ⟨c, 0, none⟩))) := fun Y hY => ⟨ld_setup hY.st rfl, (two_cell hY.cc).1⟩
      have HS2 : Hid (∀ (Y : World) (b : Nat), Ini w Y sb cb ab (pt c) (.pointer none) (pt b) (.pointer none) → (ldSt (.pointer (some ⟨sb, 0, none⟩))).run Try.prog Y = .ok (.agg mS) Y ∧ Y.cell? ⟨cb, 0, none⟩ = some (.pointer (some ⟨c, 0, none⟩))) := fun Y b hY => ⟨ld_setup hY.st rfl, (two_cell hY.cc).1⟩
      obtain ⟨hS0a, hS0b⟩ := HS.out _ HI.out
      clear hI hI2 hc2 hs2 hID a1 az1 hlt0
      go_wp2_with fail
      rw [← hc, ← hW1]
      clear hW1 hc a0 az0 hblt
      go_region_held3 (fun Y => (ldSt (.pointer (some ⟨sb, 0, none⟩))).run Try.prog Y = .ok (.agg mS) Y ∧ Y.cell? ⟨cb, 0, none⟩ = some (.pointer (some ⟨c, 0, none⟩))) (first | assumption | exact ⟨hS0a, hS0b⟩ | exact HS.out _ (by assumption) | exact hS9)
        (first
        | (go_at_call 10; refine hnw.mono ?_; rintro e w5 ⟨b, rfl, hb, hA5, hB5⟩; have hI5 := HI.out.same hB5; have hS5 := HS.out _ hI5; have hI9 := hI5.puta 0 (pt b) (pt b) (.pointer none) rfl; have hS9 := HS2.out _ b hI9; unfold pt at hS9; obtain ⟨e0, e1, ez0, ez1⟩ := two_cell hI5.aa; have halt := hI5.lt))
      have HR : Hid (Far w (w5.setCell ⟨ab, 0, none⟩ (.pointer (some ⟨b, 0, none⟩))) sb cb ab 1) := by
        have e1 : ab < c := HL.out.1
        have e2 : W1.heap.size ≤ b := hb
        have e3 := HL.out.2
        exact .inr (.inl ⟨rfl, c, b, e1, by omega, hI9, hA5.off (by omega) (by omega)⟩)
      clear hI9 hS9 hA5 hB5 hI5 hS5 hnw HI HS HS2 HL e0 e1 ez0 ez1 hb halt
      go_wp2
      go_roundw
      case rel => exact ⟨1, by omega, by go_num, HR⟩
      case measure => simp [intOf]
    · obtain ⟨c, hc⟩ : ∃ c, c = wr.heap.size := ⟨_, rfl⟩
      obtain ⟨hI2, hc2, hs2⟩ := hI.clock 1 c hc (pt c0) (pt c) rfl
      obtain ⟨a0, a1, az0, az1⟩ := two_cell hI.cc
      have hblt := heap_lt hI.cc
      have hlt0 := hI.lt
      have hA0lt := hA0.lt
      have hk2 := hI.h2
      have hA1 : AlignAt ((wr.setCell ⟨cb, 1, none⟩ (pt c)).alloc (.cells #[.int .i64 0, .int .i64 0, .int .i64 0, .int .i64 0, .int .i64 0, .int .i64 0, .int .i64 0, .int .i64 0] 30)) b0 c0 (idA false false) := (hA0.off (by omega) (by omega)).keep ((Below.refl _ _).alloc (Nat.le_refl _) _)
      obtain ⟨W1, hW1⟩ : ∃ W1, W1 = ((wr.setCell ⟨cb, 1, none⟩ (pt c)).alloc (.cells #[.int .i64 0, .int .i64 0, .int .i64 0, .int .i64 0, .int .i64 0, .int .i64 0, .int .i64 0, .int .i64 0] 30)) := ⟨_, rfl⟩
      rw [← hW1] at hI2 hc2 hs2 hA1
      unfold pt at hW1
      have HL : Hid (ab < c ∧ W1.heap.size = c + 1) := ⟨by omega, hs2⟩
      have HK : Hid (ab < c0 ∧ c0 < b0 ∧ b0 < c) := ⟨k1, k2, by omega⟩
      have HA1 : Hid (AlignAt W1 b0 c0 (idA false false)) := hA1
      have hID := hI2.same (Below.refl W1.heap.size W1).drew
      have hnw := alm_any c W1.drew (hc2.at_ rfl)
      have HI : Hid (Ini w W1.drew sb cb ab (pt c0) (pt c) (pt b0) (.pointer none)) := hID
      have HS : Hid (∀ Y : World, Ini w Y sb cb ab (pt c0) (pt c) (pt b0) (.pointer none) → (ldSt (.pointer (some ⟨sb, 0, none⟩))).run Try.prog Y = .ok (.agg mS) Y ∧ Y.cell? ⟨cb, 1, none⟩ = some (.pointer (some ⟨c, 0, none⟩))) := fun Y hY => ⟨ld_setup hY.st rfl, (two_cell hY.cc).2.1⟩
      have HS2 : Hid (∀ (Y : World) (b : Nat), Ini w Y sb cb ab (pt c0) (pt c) (pt b0) (pt b) → (ldSt (.pointer (some ⟨sb, 0, none⟩))).run Try.prog Y = .ok (.agg mS) Y ∧ Y.cell? ⟨cb, 1, none⟩ = some (.pointer (some ⟨c, 0, none⟩))) := fun Y b hY => ⟨ld_setup hY.st rfl, (two_cell hY.cc).2.1⟩
      obtain ⟨hS0a, hS0b⟩ := HS.out _ HI.out
      clear hI hI2 hc2 hs2 hID a0 az0 hlt0 hA0 hA0lt hk2 hA1 k1 k2
      go_wp2_with fail
      rw [← hc, ← hW1]
      clear hW1 hc a1 az1 hblt
      go_region_held3 (fun Y => (ldSt (.pointer (some ⟨sb, 0, none⟩))).run Try.prog Y = .ok (.agg mS) Y ∧ Y.cell? ⟨cb, 1, none⟩ = some (.pointer (some ⟨c, 0, none⟩))) (first | assumption | exact ⟨hS0a, hS0b⟩ | exact HS.out _ (by assumption) | exact hS9)
        (first
        | (go_at_call 10; refine hnw.mono ?_; rintro e w5 ⟨b, rfl, hb, hA5, hB5⟩; have hI5 := HI.out.same hB5; have hS5 := HS.out _ hI5; have hI9 := hI5.puta 1 (pt b) (pt b0) (pt b) rfl; have hS9 := HS2.out _ b hI9; unfold pt at hS9; obtain ⟨e0, e1, ez0, ez1⟩ := two_cell hI5.aa; have halt := hI5.lt))
      have HR : Hid (Far w (w5.setCell ⟨ab, 1, none⟩ (.pointer (some ⟨b, 0, none⟩))) sb cb ab 2) := by
        have e1 : ab < c := HL.out.1
        have e2 : W1.heap.size ≤ b := hb
        have e3 := HL.out.2
        obtain ⟨e4, e5, e6⟩ := HK.out
        exact .inr (.inr ⟨rfl, c0, b0, c, b, e4, e5, e6, by omega, hI9, (HA1.out.drew.keep hB5).off (by omega) (by omega), hA5.off (by omega) (by omega)⟩)
      clear hI9 hS9 hA5 hB5 hI5 hS5 hnw HI HS HS2 HL e0 e1 ez0 ez1 hb halt HK HA1
      go_wp2
      go_roundw
      case rel => exact ⟨2, by omega, by go_num, HR⟩
      case measure => simp [intOf]
    · have HK : Hid (ab < c0 ∧ c0 < b0 ∧ b0 < c1 ∧ c1 < b1) := ⟨k1, k2, k3, k4⟩
      obtain ⟨e0, e1, -, -⟩ := two_cell hI.aa
      have hh0 := hurry_al b0 c0 _ o wr hA0
      rw [id_hurry] at hh0
      have HI : Hid (Ini w wr sb cb ab (pt c0) (pt c1) (pt b0) (pt b1)) := hI
      have HA1 : Hid (AlignAt wr b1 c1 (idA false false)) := hA1
      unfold pt at e0 e1
      clear hI hA0 hA1 k1 k2 k3 k4
      go_wp2_with (go_at_call 11; refine hh0.mono ?_; rintro e w3 ⟨rfl, hA3, hF3⟩; have HI3 : Hid (Ini w w3 sb cb ab (pt c0) (pt c1) (pt b0) (pt b1)) := HI.out.fr hF3 (by have := HK.out; omega) (by have := HK.out; omega); have HA13 : Hid (AlignAt w3 b1 c1 (idA false false)) := HA1.out.other hF3 (by have := HK.out; omega) (by have := HK.out; omega); have HA03 : Hid (AlignAt w3 b0 c0 (idA o false)) := hA3; clear hh0 hF3 hA3 e0 e1; obtain ⟨e0, e1, -, -⟩ := two_cell HI3.out.aa; unfold pt at e0 e1)
      have hh1 := hurry_al b1 c1 _ p w3 HA13.out
      rw [id_hurry] at hh1
      clear e0 e1
      refine hh1.mono ?_
      rintro e w4 ⟨rfl, hA4, hF4⟩
      have HI4 : Hid (Ini w w4 sb cb ab (pt c0) (pt c1) (pt b0) (pt b1)) := HI3.out.fr hF4 (by have := HK.out; omega) (by have := HK.out; omega)
      have HA04 : Hid (AlignAt w4 b0 c0 (idA o false)) := HA03.out.other hF4 (by have := HK.out; omega) (by have := HK.out; omega)
      have HA14 : Hid (AlignAt w4 b1 c1 (idA p false)) := hA4
      have hbe := begin_al b0 c0 _ w4 HA04.out
      rw [id_begin] at hbe
      obtain ⟨e0, e1, -, -⟩ := two_cell HI4.out.aa
      unfold pt at e0 e1
      clear hh1 hF4 hA4 HI3 HA13 HA03 HI HA1
      go_wp2_with (go_at_call 12; refine hbe.mono ?_; rintro e w5 ⟨rfl, hA5, hF5⟩)
      have hI5 := HI4.out.fr hF5 (by have := HK.out; omega) (by have := HK.out; omega)
      have hA15 := HA14.out.other hF5 (by have := HK.out; omega) (by have := HK.out; omega)
      obtain ⟨hCh, hMP⟩ := hI5.all (by have := HK.out; omega) (by have := HK.out; omega) (by have := HK.out; omega) (by have := HK.out; omega) hA5 hA15
      have HM : Hid (MP w (w5.alloc (.cells #[.slice none 0 0, .slice none 0 0] 51)) (w5.heap.size + 1) cb ab c0 b0 c1 b1 w5.heap.size (apA o 900) (idA p false) [] []) := hMP
      have HC : Hid (Chain w (w5.heap.size + 1) cb ab c0 b0 c1 b1 w5.heap.size) := hCh
      clear hbe hF5 hA5 hI5 hA15 hCh hMP HI4 HA04 HA14 HK e0 e1
      go_wp2_with fail
      generalize w5.alloc (.cells #[.slice none 0 0, .slice none 0 0] 51) = W at *
      generalize w5.heap.size + 1 = B at *
      generalize w5.heap.size = lb at *
      have hTb : TT o p = 30 ∨ TT o p = 50 := by unfold TT; split <;> simp
      obtain ⟨T0, hT0⟩ : ∃ T0, sT o p d g 0 = T0 := ⟨_, rfl⟩
      obtain ⟨T1, hT1⟩ : ∃ T1, sT o p d g 1 = T1 := ⟨_, rfl⟩
      have hT0b : T0 ≤ g + 2 * d + 51 := by rw [← hT0]; show max d g + d + 1 + TT o p ≤ _; omega
      have hT1b : T1 ≤ g + 2 * d + 51 := by rw [← hT1]; show g + 2 * d + 1 + TT o p ≤ _; omega
      have HT0 : Hid (sT o p d g 0 = T0) := hT0
      have HT1 : Hid (sT o p d g 1 = T1) := hT1
      have HBT : Hid (T0 ≤ g + 2 * d + 51 ∧ T1 ≤ g + 2 * d + 51) := ⟨hT0b, hT1b⟩
      clear hT0 hT1 hT0b hT1b hTb
      obtain ⟨i0, hi, hz0, hz1, hz2⟩ := info_parts info5
      have hM0 : Hid (MP w W B cb ab c0 b0 c1 b1 lb (sA o p d g 0 0) (if 0 = g then idA p false else sA o p d g 1 0) (ln o p d g 0 0) (ln o p d g 1 0)) := by
        have e0 : sA o p d g 0 0 = apA o 900 := by
            show md o p 0 (g + d) (max d g + d + 1) (TT o p) 0 = _
            rw [md1 (Nat.le_refl 0) (Nat.zero_le _)]
            rfl
        have e1 : (if 0 = g then idA p false else sA o p d g 1 0) = idA p false := by
          split
          · rfl
          · show md p o g (max d g) (g + 2 * d + 1) (TT o p) 0 = _
            rw [md0 (by omega)]
        rw [e0, e1]
        exact HM.out
      clear HM
      go_loopw [15, 17] (fun dn tt wr => ∃ t : Nat, tt = .int .i64 t ∧ dn = .int .i64 ((if T0 < t then (1 : Int) else 0) + (if T1 < t then 1 else 0)) ∧ Hid (t ≤ g + 2 * d + 52) ∧ Hid (MP w wr B cb ab c0 b0 c1 b1 lb (sA o p d g 0 t) (if t = g then idA p false else sA o p d g 1 t) (ln o p d g 0 t) (ln o p d g 1 t))) (fun _ tt _ => (g + 60 + 4 * d) - (intOf tt).toNat)
      case atStart => exact ⟨0, rfl, by rw [if_neg (by omega), if_neg (by omega)]; rfl, Nat.zero_le _, hM0⟩
      case round =>
        clear hM0
        obtain ⟨t, rfl, rfl, HTM, HM⟩ := hrel
        have htb2 : (t : Int) < (g : Int) + 50 + 4 * (d : Int) + 10 := by have := HTM.out; omega
        have ht0 : t < 1000 := by have := HTM.out; omega
        obtain ⟨D, hD⟩ : ∃ D : Int, D = (if T0 < t then (1 : Int) else 0) + (if T1 < t then 1 else 0) := ⟨_, rfl⟩
        rw [← hD]
        have HDD : Hid (D = (if T0 < t then (1 : Int) else 0) + (if T1 < t then 1 else 0)) := hD
        clear hD
        by_cases hfin : T0 < t ∧ T1 < t
        · have hD2 : D = 2 := by rw [HDD.out, if_pos hfin.1, if_pos hfin.2]; rfl
          subst hD2
          have HLOW : Hid (Below w.heap.size w wr) := HM.out.low
          clear hfin HDD HM
          go_wp2
          go_ret
          exact ⟨rfl, HLOW.out⟩
        · have hDr : 0 ≤ D ∧ D < 2 := by
            rw [HDD.out]
            by_cases e0 : T0 < t
            · have e1 : ¬ T1 < t := fun e => hfin ⟨e0, e⟩
              rw [if_pos e0, if_neg e1]; omega
            · rw [if_neg e0]; split <;> omega
          obtain ⟨hD0, hD1⟩ := hDr
          have HTB : Hid (t ≤ 1000) := by show t ≤ 1000; omega
          have HFIN : Hid (¬ (T0 < t ∧ T1 < t)) := hfin
          clear hfin
          go_upto_if 79 with fail
          go_cut [] from 77 to 82 (fun W2 => Hid (MP w W2 B cb ab c0 b0 c1 b1 lb (sA o p d g 0 t) (sA o p d g 1 t) (ln o p d g 0 t) (ln o p d g 1 t)))
          case first =>
            by_cases htg : t = g
            · subst htg
              obtain ⟨p0, p1, -, -⟩ := two_cell HM.out.aa
              unfold pt at p0 p1
              have hM1 := HM.out
              rw [if_pos rfl] at hM1
              have HM1 : Hid (MP w wr B cb ab c0 b0 c1 b1 lb (sA o p d t 0 t) (idA p false) (ln o p d t 0 t) (ln o p d t 1 t)) := hM1
              have hbe := begin_al b1 c1 _ wr hM1.a1
              rw [id_begin] at hbe
              have HE : Hid (sA o p d t 1 t = apA p 900) := by
                show md p o t (max d t) (t + 2 * d + 1) (TT o p) t = _
                rw [md1 (Nat.le_refl t) (by omega), Nat.sub_self]
                rfl
              clear HM hM1
              go_wp2_with (go_at_call 12; refine hbe.mono ?_; rintro e w3 ⟨rfl, hA3, hF3⟩; have HM3 : Hid (MP w w3 B cb ab c0 b0 c1 b1 lb (sA o p d t 0 t) (apA p 900) (ln o p d t 0 t) (ln o p d t 1 t)) := HM1.out.fr1 HC.out hF3 hA3; clear hbe hA3 hF3)
              go_meet
              case rel => rw [HE.out]; exact HM3
            · have htg2 : ((t : Int) == (g : Int)) = false := by rw [beq_eq_false_iff_ne]; omega
              have HM1 : Hid (MP w wr B cb ab c0 b0 c1 b1 lb (sA o p d g 0 t) (sA o p d g 1 t) (ln o p d g 0 t) (ln o p d g 1 t)) := by have := HM.out; rwa [if_neg htg] at this
              clear HM htg
              go_wp2_with fail
              go_meet
              case rel => exact HM1
          case rest =>
            clear HM
            have HM : Hid (MP w wc B cb ab c0 b0 c1 b1 lb (sA o p d g 0 t) (sA o p d g 1 t) (ln o p d g 0 t) (ln o p d g 1 t)) := hcut
            clear hcut
            go_wp2_with fail
            go_loopw [18] (fun i wr => ∃ m : Nat, m ≤ 2 ∧ i = .int .i64 m ∧ Hid (MP w wr B cb ab c0 b0 c1 b1 lb (sA o p d g 0 t) (sA o p d g 1 t) (ln o p d g 0 (if 0 < m then t + 1 else t)) (ln o p d g 1 (if 1 < m then t + 1 else t)))) (fun i _ => 2 - (intOf i).toNat)
            case atStart => exact ⟨0, by omega, rfl, HM⟩
            case round =>
              clear HM
              obtain ⟨m, hm, rfl, HM⟩ := hrel
              have hm3 : m = 0 ∨ m = 1 ∨ m = 2 := by omega
              rcases hm3 with rfl | rfl | rfl
              · have HM2 : Hid (MP w wr B cb ab c0 b0 c1 b1 lb (sA o p d g 0 t) (sA o p d g 1 t) (ln o p d g 0 t) (ln o p d g 1 t)) := HM
                clear HM
                obtain ⟨v0, v1, el, r0, r1, hne⟩ := HM2.out.ll
                rw [ln_len] at r0 r1
                obtain ⟨a0, a1, az0, az1⟩ := two_cell el
                obtain ⟨p0, p1, -, -⟩ := two_cell HM2.out.aa
                unfold pt at p0 p1
                have hsn := sends_al b0 c0 _ wr.drew (HM2.out.a0.drew)
                obtain ⟨x, hx⟩ : ∃ x, (sA o p d g 0 t).sends = x := ⟨_, rfl⟩
                rw [hx] at hsn
                have HX : Hid ((sA o p d g 0 t).sends = x) := hx
                have hlblt := heap_lt el
                have hablt := heap_lt HM2.out.aa
                have HE : Hid (wr.heap[lb]? = some (two 51 v0 v1) ∧ wr.ownsRow B 5 1 v1 t ((ln o p d g 1 t).map (Value.int .u8)) ∧ ∀ g, v0.ownBlock = some g → v1.ownBlock ≠ some g) := ⟨el, r1, hne⟩
                have hnl : B ≤ wr.heap.size := HM2.out.big
                have hblb : lb < B ∧ ab < B := by have := HC.out; obtain ⟨h0, h1, h2, h3, h4, h5, h6, h7⟩ := this; omega
                have HLB : Hid (lb < B ∧ ab < B) := hblb
                have htb : t ≤ 1000 := HTB.out
                clear el r1 hne a1 az1 p1 hblb hx
                go_wp2_with fail
                go_region_law
                  (first
                  | (go_simp; go_at_call 18; refine hsn.mono ?_; rintro e w3 ⟨rfl, hw3⟩; obtain rfl := hw3.symm; clear hw3)
                  | (refine step_append_lies _ (by rfl) _ _ 50 (by rfl) B 5 i0 (.int .u8 0) 1 1 Try.underlying50 hi hz0 hz1 hz2 (by rfl) (by decide) v0 t ((ln o p d g 0 t).map (Value.int .u8)) (by rfl) (by exact (r0.alloc _).drew) ⟨wr.heap.size, 0, none⟩ 1 1 [.int .u8 x] (by rfl) (by rfl) (by intro j u hj; exact cell_one_new _ _ _ j u hj) (by simp [Value.oneCell']) (by decide) (by unfold maxLen; omega) (by omega) (by simp; omega) (wr.heap.size + 1) (by simp) ?_; intro g9 cap9 w3 hown9 hgrow9 hat9 hlt9; have hb9 : Below wr.heap.size wr (wr.alloc (.cells #[.int .u8 x] 5)).drew := ((Below.refl _ _).alloc (Nat.le_refl _) _).drew; have hr9 : (∀ k, v0.ownBlock = some k → B ≤ k) := (fun k hk => (r0.lt k hk).1); have hM9 := HM2.out.push0 (x := x) HC.out HE.out.1 (by rw [ln_len]; exact HE.out.2.1) HE.out.2.2 hb9 hr9 hgrow9 ⟨g9, rfl, by rcases hat9 with e | e; exact .inl e; right; rw [e]; simp⟩ (by rw [ln_len]; exact hown9); have hl3 : w3.heap[lb]? = some (two 51 v0 v1) := (hgrow9.block lb (by simp; have := heap_lt HE.out.1; omega) (fun e => by have := hr9 lb e.symm; have := HLB.out; omega)).trans ((hb9.block lb (heap_lt HE.out.1)).trans HE.out.1); obtain ⟨q0, q1, qz0, qz1⟩ := two_cell hl3; have hpa : w3.cell? ⟨ab, 0, none⟩ = some (.pointer (some ⟨b0, 0, none⟩)) := (World.cell?_of_block (a := ⟨ab, 0, none⟩) ((hgrow9.block ab (by simp; have := heap_lt HM2.out.aa; omega) (fun e => by have := hr9 ab e.symm; have := HLB.out; omega)).trans (hb9.block ab (heap_lt HM2.out.aa)))).trans (two_cell HM2.out.aa).1; have hpb : (w3.setCell ⟨lb, 0, none⟩ (.slice (some ⟨g9, 0, none⟩) (t + 1) cap9)).cell? ⟨ab, 0, none⟩ = some (.pointer (some ⟨b0, 0, none⟩)) := (two_cell hM9.aa).1))
                all_goals
                  rw [← HX.out, ← ln_next] at hM9
                  have HM9 : Hid (MP w (w3.setCell ⟨lb, 0, none⟩ (.slice (some ⟨g9, 0, none⟩) (t + 1) cap9)) B cb ab c0 b0 c1 b1 lb (sA o p d g 0 t) (sA o p d g 1 t) (ln o p d g 0 (t + 1)) (ln o p d g 1 t)) := hM9
                  clear hM9 hown9 hgrow9 hat9 hl3 hpa hpb hr9 hb9
                  go_wp2
                  go_roundw
                  case rel => exact ⟨1, by omega, by go_num, HM9⟩
                  case measure => simp [intOf]
              · have HM2 : Hid (MP w wr B cb ab c0 b0 c1 b1 lb (sA o p d g 0 t) (sA o p d g 1 t) (ln o p d g 0 (t + 1)) (ln o p d g 1 t)) := HM
                clear HM
                obtain ⟨v0, v1, el, r0, r1, hne⟩ := HM2.out.ll
                rw [ln_len] at r0 r1
                obtain ⟨a0, a1, az0, az1⟩ := two_cell el
                obtain ⟨p0, p1, -, -⟩ := two_cell HM2.out.aa
                unfold pt at p0 p1
                have hsn := sends_al b1 c1 _ wr.drew (HM2.out.a1.drew)
                obtain ⟨x, hx⟩ : ∃ x, (sA o p d g 1 t).sends = x := ⟨_, rfl⟩
                rw [hx] at hsn
                have HX : Hid ((sA o p d g 1 t).sends = x) := hx
                have hlblt := heap_lt el
                have hablt := heap_lt HM2.out.aa
                have HE : Hid (wr.heap[lb]? = some (two 51 v0 v1) ∧ wr.ownsRow B 5 1 v0 (t + 1) ((ln o p d g 0 (t + 1)).map (Value.int .u8)) ∧ ∀ g, v0.ownBlock = some g → v1.ownBlock ≠ some g) := ⟨el, r0, hne⟩
                have hnl : B ≤ wr.heap.size := HM2.out.big
                have hblb : lb < B ∧ ab < B := by have := HC.out; obtain ⟨h0, h1, h2, h3, h4, h5, h6, h7⟩ := this; omega
                have HLB : Hid (lb < B ∧ ab < B) := hblb
                have htb : t ≤ 1000 := HTB.out
                clear el r0 hne a0 az0 p0 hblb hx
                go_wp2_with fail
                go_region_law
                  (first
                  | (go_simp; go_at_call 18; refine hsn.mono ?_; rintro e w3 ⟨rfl, hw3⟩; obtain rfl := hw3.symm; clear hw3)
                  | (refine step_append_lies _ (by rfl) _ _ 50 (by rfl) B 5 i0 (.int .u8 0) 1 1 Try.underlying50 hi hz0 hz1 hz2 (by rfl) (by decide) v1 t ((ln o p d g 1 t).map (Value.int .u8)) (by rfl) (by exact (r1.alloc _).drew) ⟨wr.heap.size, 0, none⟩ 1 1 [.int .u8 x] (by rfl) (by rfl) (by intro j u hj; exact cell_one_new _ _ _ j u hj) (by simp [Value.oneCell']) (by decide) (by unfold maxLen; omega) (by omega) (by simp; omega) (wr.heap.size + 1) (by simp) ?_; intro g9 cap9 w3 hown9 hgrow9 hat9 hlt9; have hb9 : Below wr.heap.size wr (wr.alloc (.cells #[.int .u8 x] 5)).drew := ((Below.refl _ _).alloc (Nat.le_refl _) _).drew; have hr9 : (∀ k, v1.ownBlock = some k → B ≤ k) := (fun k hk => (r1.lt k hk).1); have hM9 := HM2.out.push1 (x := x) HC.out HE.out.1 (by rw [ln_len]; exact HE.out.2.1) HE.out.2.2 hb9 hr9 hgrow9 ⟨g9, rfl, by rcases hat9 with e | e; exact .inl e; right; rw [e]; simp⟩ (by rw [ln_len]; exact hown9); have hl3 : w3.heap[lb]? = some (two 51 v0 v1) := (hgrow9.block lb (by simp; have := heap_lt HE.out.1; omega) (fun e => by have := hr9 lb e.symm; have := HLB.out; omega)).trans ((hb9.block lb (heap_lt HE.out.1)).trans HE.out.1); obtain ⟨q0, q1, qz0, qz1⟩ := two_cell hl3; have hpa : w3.cell? ⟨ab, 1, none⟩ = some (.pointer (some ⟨b1, 0, none⟩)) := (World.cell?_of_block (a := ⟨ab, 1, none⟩) ((hgrow9.block ab (by simp; have := heap_lt HM2.out.aa; omega) (fun e => by have := hr9 ab e.symm; have := HLB.out; omega)).trans (hb9.block ab (heap_lt HM2.out.aa)))).trans (two_cell HM2.out.aa).2.1; have hpb : (w3.setCell ⟨lb, 1, none⟩ (.slice (some ⟨g9, 0, none⟩) (t + 1) cap9)).cell? ⟨ab, 1, none⟩ = some (.pointer (some ⟨b1, 0, none⟩)) := (two_cell hM9.aa).2.1))
                all_goals
                  rw [← HX.out, ← ln_next] at hM9
                  have HM9 : Hid (MP w (w3.setCell ⟨lb, 1, none⟩ (.slice (some ⟨g9, 0, none⟩) (t + 1) cap9)) B cb ab c0 b0 c1 b1 lb (sA o p d g 0 t) (sA o p d g 1 t) (ln o p d g 0 (t + 1)) (ln o p d g 1 (t + 1))) := hM9
                  clear hM9 hown9 hgrow9 hat9 hl3 hpa hpb hr9 hb9
                  go_wp2
                  go_roundw
                  case rel => exact ⟨2, by omega, by go_num, HM9⟩
                  case measure => simp [intOf]
              · have HM2 : Hid (MP w wr B cb ab c0 b0 c1 b1 lb (sA o p d g 0 t) (sA o p d g 1 t) (ln o p d g 0 (t + 1)) (ln o p d g 1 (t + 1))) := HM
                clear HM
                rw [show ((2 : Nat) : Int) = 2 from rfl]
                go_wp2_with fail
                go_loopw [15, 19] (fun dn i wr => ∃ (m : Nat) (Dn : Int), m ≤ 2 ∧ i = .int .i64 m ∧ dn = .int .i64 Dn ∧ Hid (Dn = (if T0 < (if 0 < m then t + 1 else t) then (1 : Int) else 0) + (if T1 < (if 1 < m then t + 1 else t) then 1 else 0)) ∧ Hid (MP w wr B cb ab c0 b0 c1 b1 lb (if 0 < m then sN o p d g 0 t else sA o p d g 0 t) (if 1 < m then sN o p d g 1 t else sA o p d g 1 t) (ln o p d g 0 (t + 1)) (ln o p d g 1 (t + 1)))) (fun _ i _ => 2 - (intOf i).toNat)
                case atStart => exact ⟨0, D, by omega, rfl, rfl, HDD, HM2⟩
                case round =>
                  clear HM2
                  obtain ⟨m2, D0, hm2, rfl, rfl, HDB0, HM⟩ := hrel
                  have hm3 : m2 = 0 ∨ m2 = 1 ∨ m2 = 2 := by omega
                  rcases hm3 with rfl | rfl | rfl
                  · have HM2 : Hid (MP w wr B cb ab c0 b0 c1 b1 lb (sA o p d g 0 t) (sA o p d g 1 t) (ln o p d g 0 (t + 1)) (ln o p d g 1 (t + 1))) := HM
                    clear HM
                    have HDB : Hid (D0 = (if T0 < t then (1 : Int) else 0) + (if T1 < t then 1 else 0)) := HDB0
                    have hDr : 0 ≤ D0 ∧ D0 ≤ 2 := by rw [HDB.out]; constructor <;> (split <;> split <;> omega)
                    obtain ⟨hDr0, hDr1⟩ := hDr
                    have HS := sturn o p d g 0 t hd1 hg60 (by omega)
                    have htk := tick_al b0 c0 _ wr HM2.out.a0
                    obtain ⟨k0, k1, -, -⟩ := two_cell HM2.out.cc
                    unfold pt at k0 k1
                    obtain ⟨s, hs⟩ : ∃ s, (sA o p d g 1 (t - d)).sends = s := ⟨_, rfl⟩
                    have HSS : Hid ((sA o p d g 1 (t - d)).sends = s) := hs
                    rw [show (1 - 0 : Nat) = 1 from rfl, hs] at HS
                    obtain ⟨N, hN⟩ : ∃ N, sN o p d g 0 t = N := ⟨_, rfl⟩
                    have HNN : Hid (sN o p d g 0 t = N) := hN
                    have hast : 0 ≤ (sA o p d g 0 t).st ∧ (sA o p d g 0 t).st ≤ 3 := md_st (own := o) (their := p) (e := 0) (n := g + d) (r := max d g + d + 1) (T := TT o p) (t := t)
                    obtain ⟨A, hA⟩ : ∃ A, (sA o p d g 0 t) = A := ⟨_, rfl⟩
                    rw [hN, hA] at HS
                    rw [hA] at htk HM2 hast
                    clear hs hN hA HDB0 k1
                    rcases HS with ⟨ho, hne, hNX⟩ | ⟨k, ho, hp, hw0, heq, hNX⟩
                    · rw [ho] at htk
                      have HN : Hid (N = if d ≤ t then A.tick.heard s else A.tick) := hNX
                      have HDN : Hid (D0 = (if T0 < t + 1 then (1 : Int) else 0) + (if T1 < t then 1 else 0)) := by
                        have e1 : t ≠ T0 := by have := HT0.out; omega
                        show _ = _
                        rw [HDB.out]
                        by_cases c1 : T0 < t
                        · rw [if_pos c1, if_pos (show T0 < t + 1 by omega)]
                        · rw [if_neg c1, if_neg (show ¬ T0 < t + 1 by omega)]
                      have HRS : Hid (0 ≤ A.tick.st ∧ A.tick.st ≤ 3) := hast
                      clear ho hne hNX hast
                      go_wp2_with (go_at_call 16; refine htk.mono ?_; rintro e w6 ⟨lo, lc, rfl, hr6, hlo, hA6, hF6⟩; have HMR : Hid (MP w w6 B cb ab c0 b0 c1 b1 lb A.tick (sA o p d g 1 t) (ln o p d g 0 (t + 1)) (ln o p d g 1 (t + 1))) := HM2.out.fr0 HC.out hF6 hA6; clear htk hr6 hlo hA6 hF6 HM2 k0)
                      generalize A.tick = R at *
                      go_loopw [15, 21] (fun dn j wr => dn = .int .i64 D0 ∧ j = .int .i64 0 ∧ wr = w6) (fun _ _ _ => 0)
                      case atStart => exact ⟨rfl, rfl, rfl⟩
                      case round =>
                        obtain ⟨rfl, rfl, rfl⟩ := hrel
                        have hAR := HMR.out.a0
                        have r0 := hAR.all.1.1
                        obtain ⟨p0, p1, -, -⟩ := two_cell HMR.out.aa
                        unfold pt at p0 p1
                        clear hAR p1
                        by_cases htd : d ≤ t
                        · have hdt : decide ((t : Int) ≥ (d : Int)) = true := by rw [decide_eq_true_iff]; omega
                          have hNR : Hid (N = R.heard s) := by have := HN.out; rwa [if_pos htd] at this
                          by_cases hr0 : R.st = 0
                          · have HMN : Hid (MP w wr B cb ab c0 b0 c1 b1 lb N (sA o p d g 1 t) (ln o p d g 0 (t + 1)) (ln o p d g 1 (t + 1))) := by show MP w wr B cb ab c0 b0 c1 b1 lb N (sA o p d g 1 t) (ln o p d g 0 (t + 1)) (ln o p d g 1 (t + 1)); rw [hNR.out, show R.heard s = R from if_pos (.inl hr0)]; exact HMR.out
                            rw [hr0] at r0
                            clear HMR HN hNR hr0
                            go_wp2_with fail
                            go_roundw
                            case rel => exact ⟨1, _, by omega, by go_num, rfl, HDN, by rw [HNN.out]; exact HMN⟩
                            case measure => simp [intOf]
                          · have n1 : (R.st != 0) = true := by rw [bne_iff_ne]; exact hr0
                            obtain ⟨v0, v1, el, q0, q1, -⟩ := HMR.out.ll
                            rw [ln_len] at q1
                            obtain ⟨lg, lcap, hv, hcl⟩ := row_at q1 (t - d) _ (ln_at o p d g 1 (t + 1) (t - d) (by omega))
                            rw [HSS.out] at hcl
                            obtain ⟨l0, l1, -, -⟩ := two_cell el
                            rw [hv] at l1
                            have hsub : (t : Int) - (d : Int) = ((t - d : Nat) : Int) := by omega
                            have hlt1 : (t - d : Nat) < t + 1 := by omega
                            clear el q0 q1 l0 hv
                            by_cases hs3 : s = 3
                            · have HMN : Hid (MP w wr B cb ab c0 b0 c1 b1 lb N (sA o p d g 1 t) (ln o p d g 0 (t + 1)) (ln o p d g 1 (t + 1))) := by show MP w wr B cb ab c0 b0 c1 b1 lb N (sA o p d g 1 t) (ln o p d g 0 (t + 1)) (ln o p d g 1 (t + 1)); rw [hNR.out, hs3, heard3]; exact HMR.out
                              rw [hs3] at hcl
                              clear HMR HN hNR hs3 hr0
                              go_wp2_with fail
                              go_roundw
                              case rel => exact ⟨1, _, by omega, by go_num, rfl, HDN, by rw [HNN.out]; exact HMN⟩
                              case measure => simp [intOf]
                            · have hhe := heard_al b0 c0 R s HRS.out wr HMR.out.a0
                              rw [show R.why s = 0 from if_pos (.inr (.inr hs3)), ← hNR.out] at hhe
                              have n3 : (s != 3) = true := by rw [bne_iff_ne]; exact hs3
                              clear HN hNR hr0 hs3
                              go_wp2_with (go_at_call 13; refine hhe.mono ?_; rintro e w9 ⟨rfl, hA9, hF9⟩; have HMN : Hid (MP w w9 B cb ab c0 b0 c1 b1 lb N (sA o p d g 1 t) (ln o p d g 0 (t + 1)) (ln o p d g 1 (t + 1))) := HMR.out.fr0 HC.out hF9 hA9; clear hhe hA9 hF9 HMR)
                              go_roundw
                              case rel => exact ⟨1, _, by omega, by go_num, rfl, HDN, by rw [HNN.out]; exact HMN⟩
                              case measure => simp [intOf]
                        · have hdt : decide ((t : Int) ≥ (d : Int)) = false := by rw [decide_eq_false_iff_not]; omega
                          have HMN : Hid (MP w wr B cb ab c0 b0 c1 b1 lb N (sA o p d g 1 t) (ln o p d g 0 (t + 1)) (ln o p d g 1 (t + 1))) := by have := HN.out; rw [if_neg htd] at this; show MP w wr B cb ab c0 b0 c1 b1 lb N (sA o p d g 1 t) (ln o p d g 0 (t + 1)) (ln o p d g 1 (t + 1)); rw [this]; exact HMR.out
                          have htl : (t : Int) < (d : Int) := by omega
                          clear HMR HN htd
                          go_wp2_with fail
                          go_roundw
                          case rel => exact ⟨1, _, by omega, by go_num, rfl, HDN, by rw [HNN.out]; exact HMN⟩
                          case measure => simp [intOf]
                    · rw [ho] at htk
                      have HN : Hid (N = if d ≤ t then (A.tick.out k).heard s else A.tick.out k) := hNX
                      have HDN : Hid (D0 + 1 = (if T0 < t + 1 then (1 : Int) else 0) + (if T1 < t then 1 else 0)) := by
                        have e1 : t = T0 := by have := HT0.out; omega
                        show _ = _
                        rw [HDB.out]
                        rw [if_neg (show ¬ T0 < t by omega), if_pos (show T0 < t + 1 by omega)]; omega
                      have HR0 : Hid ((A.tick.out k).st = 0) := by
                        have hp2 := of_decide_eq_true hp
                        have e2 : A.tick.out k = A.tick.end_ := if_pos hp2
                        show (A.tick.out k).st = 0
                        rw [e2]; rfl
                      have hout := fun W h => out_al b0 c0 A.tick k W h
                      rw [hp, hw0] at hout
                      have HLT : Hid (b0 < wr.heap.size ∧ c0 < wr.heap.size ∧ ab < wr.heap.size) := ⟨HM2.out.a0.lt.1, HM2.out.a0.lt.2, heap_lt HM2.out.aa⟩
                      clear ho hp hw0 heq hNX hast
                      go_wp2_with (go_at_call 16; refine htk.mono ?_; rintro e w6 ⟨lo, lc, rfl, hr6, hlo, hA6, hF6⟩; have HMT : Hid (MP w w6 B cb ab c0 b0 c1 b1 lb A.tick (sA o p d g 1 t) (ln o p d g 0 (t + 1)) (ln o p d g 1 (t + 1))) := HM2.out.fr0 HC.out hF6 hA6; obtain ⟨lg, lf, rfl, hcl⟩ := hr6 0 (.int .i64 k) rfl; rw [Nat.add_zero] at hcl; have HO : Hid (lg < w6.heap.size ∧ lg ≠ b0 ∧ lg ≠ c0) := (by obtain ⟨e1, e2⟩ := hlo _ rfl; have e3 := HLT.out; have e1' : wr.heap.size ≤ lg := e1; exact ⟨e2, by omega, by omega⟩); clear htk hr6 hlo hA6 hF6 HM2 k0)
                      obtain ⟨p0, p1, -, -⟩ := two_cell HMT.out.aa
                      unfold pt at p0 p1
                      have hou := hout w6.drew HMT.out.a0.drew
                      have HCL : Hid (w6.cell? ⟨lg, lf, none⟩ = some (.int .i64 k)) := hcl
                      clear p1 hout
                      generalize A.tick.out k = R at *
                      have hi1 : (0 : Int) < 1 := by decide
                      go_loopw [15, 21] (fun dn j wr => (dn = .int .i64 D0 ∧ j = .int .i64 0 ∧ wr = w6) ∨ (dn = .int .i64 (D0 + 1) ∧ j = .int .i64 1 ∧ Hid (MP w wr B cb ab c0 b0 c1 b1 lb R (sA o p d g 1 t) (ln o p d g 0 (t + 1)) (ln o p d g 1 (t + 1))))) (fun _ j _ => 1 - (intOf j).toNat)
                      case atStart => exact .inl ⟨rfl, rfl, rfl⟩
                      case round =>
                        rcases hrel with ⟨rfl, rfl, hwr⟩ | ⟨rfl, rfl, HMR⟩
                        · subst hwr
                          go_wp2_with fail
                          go_region_held3 (fun Y => Y.cell? ⟨ab, 0, none⟩ = some (.pointer (some ⟨b0, 0, none⟩)) ∧ Y.cell? ⟨lg, lf, none⟩ = some (.int .i64 k)) (first | assumption | go_keep)
                            (first
                            | (go_at_call 17; refine hou.mono ?_; rintro e w8 ⟨rfl, hA8, hF8⟩; have hF8' : Fr b0 c0 wr w8 := (Fr.refl _ _ wr).drew.trans hF8; have hM8 := HMT.out.fr0 HC.out hF8' hA8; have hS8 : w8.cell? ⟨ab, 0, none⟩ = some (.pointer (some ⟨b0, 0, none⟩)) ∧ w8.cell? ⟨lg, lf, none⟩ = some (.int .i64 k) := ⟨(two_cell hM8.aa).1, (World.cell?_of_block (a := ⟨lg, lf, none⟩) (hF8'.block lg HO.out.1 HO.out.2.1 HO.out.2.2)).trans HCL.out⟩))
                          have HM8 : Hid (MP w w8 B cb ab c0 b0 c1 b1 lb R (sA o p d g 1 t) (ln o p d g 0 (t + 1)) (ln o p d g 1 (t + 1))) := hM8
                          clear hou hA8 hF8 hF8' hM8 hS8 HMT hcl p0
                          go_wp2_with fail
                          go_roundw
                          case rel => exact .inr ⟨by go_num, by go_num, HM8⟩
                          case measure => simp [intOf]
                        · clear hou hcl p0 HMT HCL
                          have hAR := HMR.out.a0
                          have r0 := hAR.all.1.1
                          obtain ⟨p0, p1, -, -⟩ := two_cell HMR.out.aa
                          unfold pt at p0 p1
                          clear hAR p1
                          by_cases htd : d ≤ t
                          · have hdt : decide ((t : Int) ≥ (d : Int)) = true := by rw [decide_eq_true_iff]; omega
                            have hNR : Hid (N = R.heard s) := by have := HN.out; rwa [if_pos htd] at this
                            rw [HR0.out] at r0
                            have HMN : Hid (MP w wr B cb ab c0 b0 c1 b1 lb N (sA o p d g 1 t) (ln o p d g 0 (t + 1)) (ln o p d g 1 (t + 1))) := by show MP w wr B cb ab c0 b0 c1 b1 lb N (sA o p d g 1 t) (ln o p d g 0 (t + 1)) (ln o p d g 1 (t + 1)); rw [hNR.out, show R.heard s = R from if_pos (.inl HR0.out)]; exact HMR.out
                            clear HMR HN hNR
                            go_wp2_with fail
                            go_roundw
                            case rel => exact ⟨1, _, by omega, by go_num, rfl, HDN, by rw [HNN.out]; exact HMN⟩
                            case measure => simp [intOf]
                          · have hdt : decide ((t : Int) ≥ (d : Int)) = false := by rw [decide_eq_false_iff_not]; omega
                            have HMN : Hid (MP w wr B cb ab c0 b0 c1 b1 lb N (sA o p d g 1 t) (ln o p d g 0 (t + 1)) (ln o p d g 1 (t + 1))) := by have := HN.out; rw [if_neg htd] at this; show MP w wr B cb ab c0 b0 c1 b1 lb N (sA o p d g 1 t) (ln o p d g 0 (t + 1)) (ln o p d g 1 (t + 1)); rw [this]; exact HMR.out
                            have htl : (t : Int) < (d : Int) := by omega
                            clear HMR HN htd
                            go_wp2_with fail
                            go_roundw
                            case rel => exact ⟨1, _, by omega, by go_num, rfl, HDN, by rw [HNN.out]; exact HMN⟩
                            case measure => simp [intOf]
                  · have HM2 : Hid (MP w wr B cb ab c0 b0 c1 b1 lb (sN o p d g 0 t) (sA o p d g 1 t) (ln o p d g 0 (t + 1)) (ln o p d g 1 (t + 1))) := HM
                    clear HM
                    have HDB : Hid (D0 = (if T0 < t + 1 then (1 : Int) else 0) + (if T1 < t then 1 else 0)) := HDB0
                    have hDr : 0 ≤ D0 ∧ D0 ≤ 2 := by rw [HDB.out]; constructor <;> (split <;> split <;> omega)
                    obtain ⟨hDr0, hDr1⟩ := hDr
                    have HS := sturn o p d g 1 t hd1 hg60 (by omega)
                    have htk := tick_al b1 c1 _ wr HM2.out.a1
                    obtain ⟨k0, k1, -, -⟩ := two_cell HM2.out.cc
                    unfold pt at k0 k1
                    obtain ⟨s, hs⟩ : ∃ s, (sA o p d g 0 (t - d)).sends = s := ⟨_, rfl⟩
                    have HSS : Hid ((sA o p d g 0 (t - d)).sends = s) := hs
                    rw [show (1 - 1 : Nat) = 0 from rfl, hs] at HS
                    obtain ⟨N, hN⟩ : ∃ N, sN o p d g 1 t = N := ⟨_, rfl⟩
                    have HNN : Hid (sN o p d g 1 t = N) := hN
                    have hast : 0 ≤ (sA o p d g 1 t).st ∧ (sA o p d g 1 t).st ≤ 3 := md_st (own := p) (their := o) (e := g) (n := max d g) (r := g + 2 * d + 1) (T := TT o p) (t := t)
                    obtain ⟨A, hA⟩ : ∃ A, (sA o p d g 1 t) = A := ⟨_, rfl⟩
                    rw [hN, hA] at HS
                    rw [hA] at htk HM2 hast
                    clear hs hN hA HDB0 k0
                    rcases HS with ⟨ho, hne, hNX⟩ | ⟨k, ho, hp, hw0, heq, hNX⟩
                    · rw [ho] at htk
                      have HN : Hid (N = if d ≤ t then A.tick.heard s else A.tick) := hNX
                      have HDN : Hid (D0 = (if T0 < t + 1 then (1 : Int) else 0) + (if T1 < t + 1 then 1 else 0)) := by
                        have e1 : t ≠ T1 := by have := HT1.out; omega
                        show _ = _
                        rw [HDB.out]
                        by_cases c1 : T1 < t
                        · rw [if_pos c1, if_pos (show T1 < t + 1 by omega)]
                        · rw [if_neg c1, if_neg (show ¬ T1 < t + 1 by omega)]
                      have HRS : Hid (0 ≤ A.tick.st ∧ A.tick.st ≤ 3) := hast
                      clear ho hne hNX hast
                      go_wp2_with (go_at_call 16; refine htk.mono ?_; rintro e w6 ⟨lo, lc, rfl, hr6, hlo, hA6, hF6⟩; have HMR : Hid (MP w w6 B cb ab c0 b0 c1 b1 lb (sN o p d g 0 t) A.tick (ln o p d g 0 (t + 1)) (ln o p d g 1 (t + 1))) := HM2.out.fr1 HC.out hF6 hA6; clear htk hr6 hlo hA6 hF6 HM2 k1)
                      generalize A.tick = R at *
                      go_loopw [15, 21] (fun dn j wr => dn = .int .i64 D0 ∧ j = .int .i64 0 ∧ wr = w6) (fun _ _ _ => 0)
                      case atStart => exact ⟨rfl, rfl, rfl⟩
                      case round =>
                        obtain ⟨rfl, rfl, rfl⟩ := hrel
                        have hAR := HMR.out.a1
                        have r0 := hAR.all.1.1
                        obtain ⟨p0, p1, -, -⟩ := two_cell HMR.out.aa
                        unfold pt at p0 p1
                        clear hAR p0
                        by_cases htd : d ≤ t
                        · have hdt : decide ((t : Int) ≥ (d : Int)) = true := by rw [decide_eq_true_iff]; omega
                          have hNR : Hid (N = R.heard s) := by have := HN.out; rwa [if_pos htd] at this
                          by_cases hr0 : R.st = 0
                          · have HMN : Hid (MP w wr B cb ab c0 b0 c1 b1 lb (sN o p d g 0 t) N (ln o p d g 0 (t + 1)) (ln o p d g 1 (t + 1))) := by show MP w wr B cb ab c0 b0 c1 b1 lb (sN o p d g 0 t) N (ln o p d g 0 (t + 1)) (ln o p d g 1 (t + 1)); rw [hNR.out, show R.heard s = R from if_pos (.inl hr0)]; exact HMR.out
                            rw [hr0] at r0
                            clear HMR HN hNR hr0
                            go_wp2_with fail
                            go_roundw
                            case rel => exact ⟨2, _, by omega, by go_num, rfl, HDN, by rw [HNN.out]; exact HMN⟩
                            case measure => simp [intOf]
                          · have n1 : (R.st != 0) = true := by rw [bne_iff_ne]; exact hr0
                            obtain ⟨v0, v1, el, q0, q1, -⟩ := HMR.out.ll
                            rw [ln_len] at q0
                            obtain ⟨lg, lcap, hv, hcl⟩ := row_at q0 (t - d) _ (ln_at o p d g 0 (t + 1) (t - d) (by omega))
                            rw [HSS.out] at hcl
                            obtain ⟨l0, l1, -, -⟩ := two_cell el
                            rw [hv] at l0
                            have hsub : (t : Int) - (d : Int) = ((t - d : Nat) : Int) := by omega
                            have hlt1 : (t - d : Nat) < t + 1 := by omega
                            clear el q0 q1 l1 hv
                            by_cases hs3 : s = 3
                            · have HMN : Hid (MP w wr B cb ab c0 b0 c1 b1 lb (sN o p d g 0 t) N (ln o p d g 0 (t + 1)) (ln o p d g 1 (t + 1))) := by show MP w wr B cb ab c0 b0 c1 b1 lb (sN o p d g 0 t) N (ln o p d g 0 (t + 1)) (ln o p d g 1 (t + 1)); rw [hNR.out, hs3, heard3]; exact HMR.out
                              rw [hs3] at hcl
                              clear HMR HN hNR hs3 hr0
                              go_wp2_with fail
                              go_roundw
                              case rel => exact ⟨2, _, by omega, by go_num, rfl, HDN, by rw [HNN.out]; exact HMN⟩
                              case measure => simp [intOf]
                            · have hhe := heard_al b1 c1 R s HRS.out wr HMR.out.a1
                              rw [show R.why s = 0 from if_pos (.inr (.inr hs3)), ← hNR.out] at hhe
                              have n3 : (s != 3) = true := by rw [bne_iff_ne]; exact hs3
                              clear HN hNR hr0 hs3
                              go_wp2_with (go_at_call 13; refine hhe.mono ?_; rintro e w9 ⟨rfl, hA9, hF9⟩; have HMN : Hid (MP w w9 B cb ab c0 b0 c1 b1 lb (sN o p d g 0 t) N (ln o p d g 0 (t + 1)) (ln o p d g 1 (t + 1))) := HMR.out.fr1 HC.out hF9 hA9; clear hhe hA9 hF9 HMR)
                              go_roundw
                              case rel => exact ⟨2, _, by omega, by go_num, rfl, HDN, by rw [HNN.out]; exact HMN⟩
                              case measure => simp [intOf]
                        · have hdt : decide ((t : Int) ≥ (d : Int)) = false := by rw [decide_eq_false_iff_not]; omega
                          have HMN : Hid (MP w wr B cb ab c0 b0 c1 b1 lb (sN o p d g 0 t) N (ln o p d g 0 (t + 1)) (ln o p d g 1 (t + 1))) := by have := HN.out; rw [if_neg htd] at this; show MP w wr B cb ab c0 b0 c1 b1 lb (sN o p d g 0 t) N (ln o p d g 0 (t + 1)) (ln o p d g 1 (t + 1)); rw [this]; exact HMR.out
                          have htl : (t : Int) < (d : Int) := by omega
                          clear HMR HN htd
                          go_wp2_with fail
                          go_roundw
                          case rel => exact ⟨2, _, by omega, by go_num, rfl, HDN, by rw [HNN.out]; exact HMN⟩
                          case measure => simp [intOf]
                    · rw [ho] at htk
                      have HN : Hid (N = if d ≤ t then (A.tick.out k).heard s else A.tick.out k) := hNX
                      have HDN : Hid (D0 + 1 = (if T0 < t + 1 then (1 : Int) else 0) + (if T1 < t + 1 then 1 else 0)) := by
                        have e1 : t = T1 := by have := HT1.out; omega
                        show _ = _
                        rw [HDB.out]
                        rw [if_neg (show ¬ T1 < t by omega), if_pos (show T1 < t + 1 by omega)]; omega
                      have HR0 : Hid ((A.tick.out k).st = 0) := by
                        have hp2 := of_decide_eq_true hp
                        have e2 : A.tick.out k = A.tick.end_ := if_pos hp2
                        show (A.tick.out k).st = 0
                        rw [e2]; rfl
                      have hout := fun W h => out_al b1 c1 A.tick k W h
                      rw [hp, hw0] at hout
                      have HLT : Hid (b1 < wr.heap.size ∧ c1 < wr.heap.size ∧ ab < wr.heap.size) := ⟨HM2.out.a1.lt.1, HM2.out.a1.lt.2, heap_lt HM2.out.aa⟩
                      clear ho hp hw0 heq hNX hast
                      go_wp2_with (go_at_call 16; refine htk.mono ?_; rintro e w6 ⟨lo, lc, rfl, hr6, hlo, hA6, hF6⟩; have HMT : Hid (MP w w6 B cb ab c0 b0 c1 b1 lb (sN o p d g 0 t) A.tick (ln o p d g 0 (t + 1)) (ln o p d g 1 (t + 1))) := HM2.out.fr1 HC.out hF6 hA6; obtain ⟨lg, lf, rfl, hcl⟩ := hr6 0 (.int .i64 k) rfl; rw [Nat.add_zero] at hcl; have HO : Hid (lg < w6.heap.size ∧ lg ≠ b1 ∧ lg ≠ c1) := (by obtain ⟨e1, e2⟩ := hlo _ rfl; have e3 := HLT.out; have e1' : wr.heap.size ≤ lg := e1; exact ⟨e2, by omega, by omega⟩); clear htk hr6 hlo hA6 hF6 HM2 k1)
                      obtain ⟨p0, p1, -, -⟩ := two_cell HMT.out.aa
                      unfold pt at p0 p1
                      have hou := hout w6.drew HMT.out.a1.drew
                      have HCL : Hid (w6.cell? ⟨lg, lf, none⟩ = some (.int .i64 k)) := hcl
                      clear p0 hout
                      generalize A.tick.out k = R at *
                      have hi1 : (0 : Int) < 1 := by decide
                      go_loopw [15, 21] (fun dn j wr => (dn = .int .i64 D0 ∧ j = .int .i64 0 ∧ wr = w6) ∨ (dn = .int .i64 (D0 + 1) ∧ j = .int .i64 1 ∧ Hid (MP w wr B cb ab c0 b0 c1 b1 lb (sN o p d g 0 t) R (ln o p d g 0 (t + 1)) (ln o p d g 1 (t + 1))))) (fun _ j _ => 1 - (intOf j).toNat)
                      case atStart => exact .inl ⟨rfl, rfl, rfl⟩
                      case round =>
                        rcases hrel with ⟨rfl, rfl, hwr⟩ | ⟨rfl, rfl, HMR⟩
                        · subst hwr
                          go_wp2_with fail
                          go_region_held3 (fun Y => Y.cell? ⟨ab, 1, none⟩ = some (.pointer (some ⟨b1, 0, none⟩)) ∧ Y.cell? ⟨lg, lf, none⟩ = some (.int .i64 k)) (first | assumption | go_keep)
                            (first
                            | (go_at_call 17; refine hou.mono ?_; rintro e w8 ⟨rfl, hA8, hF8⟩; have hF8' : Fr b1 c1 wr w8 := (Fr.refl _ _ wr).drew.trans hF8; have hM8 := HMT.out.fr1 HC.out hF8' hA8; have hS8 : w8.cell? ⟨ab, 1, none⟩ = some (.pointer (some ⟨b1, 0, none⟩)) ∧ w8.cell? ⟨lg, lf, none⟩ = some (.int .i64 k) := ⟨(two_cell hM8.aa).2.1, (World.cell?_of_block (a := ⟨lg, lf, none⟩) (hF8'.block lg HO.out.1 HO.out.2.1 HO.out.2.2)).trans HCL.out⟩))
                          have HM8 : Hid (MP w w8 B cb ab c0 b0 c1 b1 lb (sN o p d g 0 t) R (ln o p d g 0 (t + 1)) (ln o p d g 1 (t + 1))) := hM8
                          clear hou hA8 hF8 hF8' hM8 hS8 HMT hcl p1
                          go_wp2_with fail
                          go_roundw
                          case rel => exact .inr ⟨by go_num, by go_num, HM8⟩
                          case measure => simp [intOf]
                        · clear hou hcl p1 HMT HCL
                          have hAR := HMR.out.a1
                          have r0 := hAR.all.1.1
                          obtain ⟨p0, p1, -, -⟩ := two_cell HMR.out.aa
                          unfold pt at p0 p1
                          clear hAR p0
                          by_cases htd : d ≤ t
                          · have hdt : decide ((t : Int) ≥ (d : Int)) = true := by rw [decide_eq_true_iff]; omega
                            have hNR : Hid (N = R.heard s) := by have := HN.out; rwa [if_pos htd] at this
                            rw [HR0.out] at r0
                            have HMN : Hid (MP w wr B cb ab c0 b0 c1 b1 lb (sN o p d g 0 t) N (ln o p d g 0 (t + 1)) (ln o p d g 1 (t + 1))) := by show MP w wr B cb ab c0 b0 c1 b1 lb (sN o p d g 0 t) N (ln o p d g 0 (t + 1)) (ln o p d g 1 (t + 1)); rw [hNR.out, show R.heard s = R from if_pos (.inl HR0.out)]; exact HMR.out
                            clear HMR HN hNR
                            go_wp2_with fail
                            go_roundw
                            case rel => exact ⟨2, _, by omega, by go_num, rfl, HDN, by rw [HNN.out]; exact HMN⟩
                            case measure => simp [intOf]
                          · have hdt : decide ((t : Int) ≥ (d : Int)) = false := by rw [decide_eq_false_iff_not]; omega
                            have HMN : Hid (MP w wr B cb ab c0 b0 c1 b1 lb (sN o p d g 0 t) N (ln o p d g 0 (t + 1)) (ln o p d g 1 (t + 1))) := by have := HN.out; rw [if_neg htd] at this; show MP w wr B cb ab c0 b0 c1 b1 lb (sN o p d g 0 t) N (ln o p d g 0 (t + 1)) (ln o p d g 1 (t + 1)); rw [this]; exact HMR.out
                            have htl : (t : Int) < (d : Int) := by omega
                            clear HMR HN htd
                            go_wp2_with fail
                            go_roundw
                            case rel => exact ⟨2, _, by omega, by go_num, rfl, HDN, by rw [HNN.out]; exact HMN⟩
                            case measure => simp [intOf]
                  · have HM2 : Hid (MP w wr B cb ab c0 b0 c1 b1 lb (sA o p d g 0 (t + 1)) (if t + 1 = g then idA p false else sA o p d g 1 (t + 1)) (ln o p d g 0 (t + 1)) (ln o p d g 1 (t + 1))) := by
                      have e0 : sN o p d g 0 t = sA o p d g 0 (t + 1) := by
                        show nx o p 0 (g + d) (max d g + d + 1) (TT o p) t = md o p 0 (g + d) (max d g + d + 1) (TT o p) (t + 1)
                        unfold nx
                        rw [if_neg (by omega)]
                      have e1 : sN o p d g 1 t = if t + 1 = g then idA p false else sA o p d g 1 (t + 1) := rfl
                      rw [← e0, ← e1]
                      exact HM
                    have HDB : Hid (D0 = (if T0 < t + 1 then (1 : Int) else 0) + (if T1 < t + 1 then 1 else 0)) := HDB0
                    have HTN : Hid (t + 1 ≤ g + 2 * d + 52) := by
                      show t + 1 ≤ g + 2 * d + 52
                      have e1 := HFIN.out
                      have e2 := HBT.out
                      omega
                    clear HM HDB0
                    go_wp2_with fail
                    go_roundw
                    case rel => exact ⟨t + 1, by go_num, by rw [HDB.out], HTN, HM2⟩
                    case measure => simp [intOf]; omega
end Go.Proofs.Ytmcjjminlbempaa.Tape
