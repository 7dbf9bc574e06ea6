/- The walk of the law StateWaits. -/
import Derived.Test.YtldjglmelbkngaaGreatClo1
import Derived.Test.YtldjglmelbkngaaGreatState20
namespace Go.Proofs.YtldjglmelbkngaaGreat.Tape
open Go.ChangeShapes Go.WideShapes Go.ChangeAt Go.RowKit
set_option linter.unusedVariables false

attribute [local go_sem ↓] ldU_def stU_def
attribute [local go_sem] m_hold c_hold

/-- Three octets made. -/
theorem oct3 (w : World) (a b c : Int) : Reads (w.alloc (.cells #[.int .u8 a, .int .u8 b, .int .u8 c] 5)) (some ⟨w.heap.size, 0, none⟩) ([a, b, c].map (.int .u8)) := fun k v hk => by
  refine ⟨w.heap.size, 0, rfl, ?_⟩
  rw [Nat.zero_add, Lib.cell_of_heap (heap_alloc_new w (.cells #[.int .u8 a, .int .u8 b, .int .u8 c] 5))]
  simpa using hk

set_option maxRecDepth 100000 in
set_option maxHeartbeats 4000000 in
theorem waits_walk (c : Bool) (n : Int) (an : Bool) (late : Int) (w : World) (n0 : 0 ≤ n) (n1 : n ≤ 255) (l0 : 0 ≤ late) (l1 : late ≤ 255) : Calls Tryz.prog 6 #[.bool c, .int .u8 n, .bool an, .int .u8 late] w fun e w' => e = .returned (.bool true) ∧ Below w.heap.size w w' := by
  have haw := awake17_any w
  have hnm : n.tmod 5 = n % 5 := Int.tmod_eq_emod_of_nonneg n0
  obtain ⟨q, hq⟩ : ∃ q : Nat, n % 5 = (q : Int) := ⟨(n % 5).toNat, by omega⟩
  have hq5 : q < 5 := by omega
  rw [hq] at hnm
  have hlm : late.tmod 25 = late % 25 := Int.tmod_eq_emod_of_nonneg l0
  obtain ⟨r, hr⟩ : ∃ r : Nat, late % 25 = (r : Int) := ⟨(late % 25).toNat, by omega⟩
  have hr25 : r < 25 := by omega
  rw [hr] at hlm
  clear hq hr
  go_enter Tryz.func6, Tryz.ntmps6
  go_wp2_with fail
  refine haw.mono ?_
  rintro e w1 ⟨rfl, hB1⟩
  have hsv := serving_any c w1
  have HB1 : Hid (Below w.heap.size w w1) := hB1
  clear haw hB1
  go_wp2_with fail
  refine hsv.mono ?_
  rintro e w2 ⟨P, rfl, hcy, hPB, hA⟩
  have HA2 : Hid (LA w P 900 (wS c 0) noK w2) := hA.base HB1.out
  clear hsv hcy hPB hA HB1
  go_upto_region 5 with fail
  go_wp2_with fail
  go_loopw [11] (fun i wr => ∃ j : Nat, j ≤ q + 1 ∧ i = .int .i64 j ∧ Hid (LA w P 900 (wS c j) noK wr)) (fun i _ => q + 1 - (intOf i).toNat)
  case atStart => exact ⟨0, by omega, rfl, HA2⟩
  case round =>
    clear HA2
    obtain ⟨j, hj, rfl, HA⟩ := hrel
    by_cases hl : j < q + 1
    · have hd : decide ((j : Int) < 1 + (q : Int)) = true := by rw [decide_eq_true_iff]; omega
      have hw : IntKind.u8.wrap (j : Int) = j := IntWalk.u8_in _ (by omega)
      have hBa : Below wr.heap.size wr (wr.alloc (.cells #[.int .u8 j, .int .u8 2, .int .u8 3] 5)) := (Below.refl _ _).alloc (Nat.le_refl _) _
      have hor := LA.order (k := 898) (HA.out.keep hBa) 5 (some ⟨wr.heap.size, 0, none⟩) 3 3 [(j : Int), 2, 3] rfl (by omega) (oct3 wr j 2 3) (by simp; omega)
      rw [wS_put c j (by omega)] at hor
      clear hBa HA
      go_wp2_with fail
      refine hor.mono ?_
      rintro e w3 ⟨rfl, hA⟩
      have hnx := hA.next
      clear hor hA
      go_wp2_with fail
      refine hnx.mono ?_
      rintro e w4 ⟨⟨a', b', c', d', ao', n', cap', rfl⟩, hA⟩
      have HA4 : Hid (LA w P 900 (wS c (j + 1)) noK w4) := LA.room (x := wS c (j + 1)) hA (wS_room c (j + 1) (by omega))
      clear hnx hA
      go_wp2_with fail
      go_roundw
      case rel => exact ⟨j + 1, by omega, by go_num, HA4⟩
      case measure => simp [intOf]; omega
    · have hd : decide ((j : Int) < 1 + (q : Int)) = false := by rw [decide_eq_false_iff_not]; omega
      have HA : Hid (LA w P 900 (wS c (q + 1)) noK wr) := (show j = q + 1 by omega) ▸ HA
      clear hj hl
      cases an
      · go_upto_region 14 with fail
        go_wp2_with fail
        go_loopw [13] (fun i wr => ∃ j : Nat, j ≤ 25 ∧ i = .int .i64 j ∧ Hid (LA w P 800 ((wS c (q + 1)).tks j) noK wr)) (fun i _ => 25 - (intOf i).toNat)
        case atStart => exact ⟨0, by omega, rfl, HA.out.mono (by omega)⟩
        case round =>
          clear HA
          obtain ⟨i', hj, rfl, HA⟩ := hrel
          by_cases hl : i' < 25
          · have hd : decide ((i' : Int) < 25) = true := by rw [decide_eq_true_iff]; omega
            have hrm : Room 816 ((wS c (q + 1)).tks i') := by rw [wS_tks c q hq5 i' hl]; exact ((wS_room c (q + 1) (by omega)).setC _).mono (by omega)
            have hti := LA.tick (k := 800) (HA.out.room hrm)
            clear HA hrm
            go_wp2_with fail
            refine hti.mono ?_
            rintro e w5 ⟨rfl, hA⟩
            have HA5 : Hid (LA w P 800 ((wS c (q + 1)).tks (i' + 1)) noK w5) := hA
            clear hti hA
            go_wp2_with fail
            go_roundw
            case rel => exact ⟨i' + 1, by omega, by go_num, HA5⟩
            case measure => simp [intOf]; omega
          · obtain rfl : i' = 25 := by omega
            obtain ⟨o1, o2, -⟩ := wS_out c q hq5
            have hto := HA.out.told
            rw [o2] at hto
            have HS : Hid (((wS c (q + 1)).tks 25).took.s = 0) := (took_s _).trans o1
            clear HA o1 o2
            go_wp2_with fail
            refine hto.mono ?_
            rintro e w6 ⟨v, rfl, hA⟩
            obtain ⟨ao, cap, rfl, hcell⟩ := hA.read
            obtain ⟨g, rfl, hc⟩ := hcell 0 _ rfl
            have d1 : w6.cell? ⟨g, 1, none⟩ = some (.int .u8 2) := by simpa [tdC] using hc 1 (by omega)
            have c0 := hA.all.1
            rw [HS.out] at c0
            have HB6 : Hid (Below w.heap.size w w6) := hA.below
            clear hto hA hcell hc
            go_wp2
            go_ret
            exact ⟨rfl, HB6.out⟩
      · go_upto_region 14 with fail
        go_wp2_with fail
        go_loopw [13] (fun i wr => ∃ j : Nat, j ≤ r ∧ i = .int .i64 j ∧ Hid (LA w P 800 ((wS c (q + 1)).tks j) noK wr)) (fun i _ => r - (intOf i).toNat)
        case atStart => exact ⟨0, by omega, rfl, HA.out.mono (by omega)⟩
        case round =>
          clear HA
          obtain ⟨i', hj, rfl, HA⟩ := hrel
          by_cases hl : i' < r
          · have hd : decide ((i' : Int) < (r : Int)) = true := by rw [decide_eq_true_iff]; omega
            have hrm : Room 816 ((wS c (q + 1)).tks i') := by rw [wS_tks c q hq5 i' (by omega)]; exact ((wS_room c (q + 1) (by omega)).setC _).mono (by omega)
            have hti := LA.tick (k := 800) (HA.out.room hrm)
            clear HA hrm
            go_wp2_with fail
            refine hti.mono ?_
            rintro e w5 ⟨rfl, hA⟩
            have HA5 : Hid (LA w P 800 ((wS c (q + 1)).tks (i' + 1)) noK w5) := hA
            clear hti hA
            go_wp2_with fail
            go_roundw
            case rel => exact ⟨i' + 1, by omega, by go_num, HA5⟩
            case measure => simp [intOf]; omega
          · have hd : decide ((i' : Int) < (r : Int)) = false := by rw [decide_eq_false_iff_not]; omega
            have hA := HA.out
            rw [show i' = r by omega, wS_tks c q hq5 r hr25] at hA
            have HA5 : Hid (LA w P 800 ((wS c (q + 1)).setC (xs7 (25 - (r : Int)))) noK wr) := hA
            have hfi := lfill_any wr
            clear HA hA
            go_wp2_with fail
            refine hfi.mono ?_
            rintro e w6 ⟨rfl, hB6⟩
            have hA6 := HA5.out.keep hB6
            obtain ⟨W7, hst7, hB7, hh7⟩ := kept_any w6 #[.int .u8 127, .int .u8 127, .bool true, .bool true, .int .u8 0, .int .u8 0, .bool false, .slice none 0 0] rfl (by simp [Value.oneCell'])
            have hA7 := hA6.box hB7 hh7
            have hA8 := hA7.put 0 (.int .u8 q) hA6.below.size stays_no (fun _ _ => trivial)
            have hlu : (ldU (.pointer (some ⟨w6.heap.size, 0, none⟩))).run Tryz.prog (W7.setCell ⟨w6.heap.size, 0, none⟩ (.int .u8 q)) = .ok (.agg #[.int .u8 q, .int .u8 127, .bool true, .bool true, .int .u8 0, .int .u8 0, .bool false, .slice none 0 0]) (W7.setCell ⟨w6.heap.size, 0, none⟩ (.int .u8 q)) := (ld_unit hA8.boxed rfl).1
            have u0 := (unit_cells hh7).1.1
            have z0 := (unit_cells hh7).2 0
            have hw : IntKind.u8.wrap (q : Int) = q := IntWalk.u8_in _ (by omega)
            have he : 1 + (q : Int) - 1 = q := by omega
            have hhe := LA.hear0 (k := 790) hA8.no q 127 0 0 true true false (by omega) (by omega)
            clear hfi HA5 hB6 hA6 hB7 hh7 hA7 hA8
            go_upto_region 22 with fail
            clear hst7
            go_wp2_with fail
            refine hhe.mono ?_
            rintro e w8 ⟨rfl, q', hA⟩
            obtain ⟨x1, x2, x3, x4, x5⟩ := wA_all c q hq5 (25 - (r : Int)) q'
            have HA8 : Hid (LA w P 700 (wA c q (25 - (r : Int)) q') noK w8) := LA.mono (x := wA c q (25 - (r : Int)) q') hA (by omega)
            clear hhe hlu u0 z0 hA hw he
            generalize wA c q (25 - (r : Int)) q' = X at *
            have HX : Hid (X.s = 4 ∧ X.hs.sent = [] ∧ X.A.xs = xs7 0 ∧ X.J.xs = xs7 0 ∧ Room 900 X) := ⟨x1, x2, x3, x4, x5⟩
            clear x1 x2 x3 x4 x5
            generalize W7.heap.size = g7 at *
            go_wp2_with fail
            go_loopw [16] (fun i wr => ∃ j : Nat, j ≤ 60 ∧ i = .int .i64 j ∧ Hid (LA w P 700 X noK wr)) (fun i _ => 60 - (intOf i).toNat)
            case atStart => exact ⟨0, by omega, rfl, HA8⟩
            case round =>
              clear HA8
              obtain ⟨k, hk, rfl, HA⟩ := hrel
              by_cases hl : k < 60
              · have hd : decide ((k : Int) < 60) = true := by rw [decide_eq_true_iff]; omega
                have hti := LA.tick (k := 800) (HA.out.room (HX.out.2.2.2.2.mono (by omega)))
                rw [show X.tick = X from tks_still X (xs7 0) (by simp [xs7]) HX.out.2.2.1 HX.out.2.2.2.1 1] at hti
                clear HA
                go_wp2_with fail
                refine hti.mono ?_
                rintro e w9 ⟨rfl, hA⟩
                have HA9 : Hid (LA w P 700 X noK w9) := hA.mono (by omega)
                clear hti hA
                go_wp2_with fail
                go_roundw
                case rel => exact ⟨k + 1, by omega, by go_num, HA9⟩
                case measure => simp [intOf]; omega
              · obtain rfl : k = 60 := by omega
                obtain ⟨c0, c1, -, c4, -⟩ := HA.out.all
                rw [HX.out.1] at c0
                have hho := HA.out.hold
                have hse := HA.out.sent
                rw [HX.out.2.1] at hse
                have hon := HA.out.on 7
                rw [HX.out.2.2.1] at hon
                have HB : Hid (Below w.heap.size w wr) := HA.out.below
                clear HA
                go_wp2_with fail
                with_reducible change Calls Tryz.prog (fHold _) _ _ _
                refine hho.mono ?_
                rintro e w9 ⟨rfl, hw9⟩
                obtain rfl := hw9.symm
                clear hw9 hho
                go_wp2_with fail
                refine hse.mono ?_
                rintro e w9 ⟨rfl, hw9⟩
                obtain rfl := hw9.symm
                clear hw9 hse
                go_wp2_with fail
                refine hon.mono ?_
                rintro e w9 ⟨rfl, hw9⟩
                obtain rfl := hw9.symm
                clear hw9 hon
                go_wp2
                go_ret
                exact ⟨rfl, HB.out⟩
end Go.Proofs.YtldjglmelbkngaaGreat.Tape
