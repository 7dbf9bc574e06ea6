/- The walk of the law StateOutage. -/
import Derived.Test.YtldjglmelbkngaaGreatClo2
import Derived.Test.YtldjglmelbkngaaGreatState20
import Derived.Test.YtldjglmelbkngaaGreatState22
import Derived.Test.YtldjglmelbkngaaGreatAsksW
import Derived.Deep.RegionHeld
import Derived.Deep.RegionHeld3
import Derived.Deep.QuietTactic
import Derived.BigQuiet
namespace Go.Proofs.YtldjglmelbkngaaGreat.Tape
open Go.ChangeShapes Go.WideShapes Go.ChangeAt Go.RowKit
set_option linter.unusedVariables false

attribute [local go_sem ↓] ldU_def stU_def

theorem field_so (a b : Int) (c d : Bool) (k st : Int) (wd : Bool) (x : Value) (w : World) : (Instr.field 32 (.agg #[.int .u8 a, .int .u8 b, .bool c, .bool d, .int .u8 k, .int .u8 st, .bool wd, x]) 5).run Tryz.prog w = .ok (.int .u8 st) w := by
  show _ = _
  kernel_rfl
theorem str_abc : str [97, 98, 99] = ⟨#[97, 98, 99]⟩ := by show _ = _; kernel_rfl

set_option maxRecDepth 100000 in
set_option maxHeartbeats 4000000 in
theorem outage_walk (c own : Bool) (n : Int) (w : World) (n0 : 0 ≤ n) (n1 : n ≤ 255) : Calls Tryz.prog 9 #[.bool c, .bool own, .int .u8 n] w fun e w' => e = .returned (.bool true) ∧ Below w.heap.size w w' := by
  have haw := awake17_any w
  obtain ⟨m, rfl⟩ : ∃ m : Nat, n = (m : Int) := ⟨n.toNat, by omega⟩
  go_enter Tryz.func9, Tryz.ntmps9
  go_wp2_with fail
  refine haw.mono ?_
  rintro e w1 ⟨rfl, hB1⟩
  have hsv := serving_any c w1
  have HB1 : Hid (Below w.heap.size w w1) := hB1
  clear haw hB1
  go_wp2_with fail
  refine hsv.mono ?_
  rintro e w2 ⟨P, rfl, hcy, hPB, hA⟩
  have HA2 : Hid (LA w P 900 (svC c) noK w2) := hA.base HB1.out
  have hfi := lfill_any w2
  clear hsv hcy hPB hA HB1
  go_wp2_with fail
  refine hfi.mono ?_
  rintro e w3 ⟨rfl, hB3⟩
  have hA3 := HA2.out.keep hB3
  obtain ⟨W4, hst4, hB4, hh4⟩ := kept_any w3 #[.int .u8 127, .int .u8 127, .bool true, .bool true, .int .u8 0, .int .u8 0, .bool false, .slice none 0 0] rfl (by simp [Value.oneCell'])
  have hA4 := hA3.box hB4 hh4
  have hw3 := hA3.below.size
  have hA5 : LA w P 900 (svC c) (andK noK (Box w3.heap.size #[.int .u8 127, .int .u8 127, .bool true, .bool true, .int .u8 2, .int .u8 0, .bool false, .slice none 0 0])) (W4.setCell ⟨w3.heap.size, 4, none⟩ (.int .u8 2)) := hA4.put 4 (.int .u8 2) hw3 stays_no (fun _ _ => trivial)
  have hA6 : LA w P 900 (svC c) (andK noK (Box w3.heap.size #[.int .u8 127, .int .u8 0, .bool true, .bool true, .int .u8 2, .int .u8 0, .bool false, .slice none 0 0])) ((W4.setCell ⟨w3.heap.size, 4, none⟩ (.int .u8 2)).setCell ⟨w3.heap.size, 1, none⟩ (.int .u8 0)) := hA5.put 1 (.int .u8 0) hw3 stays_no (fun _ _ => trivial)
  have u4 := (unit_cells hh4).1.2.2.2.2.1
  have z4 := (unit_cells hh4).2 4
  have u1 := (unit_cells hA5.boxed).1.2.1
  have z1 := (unit_cells hA5.boxed).2 1
  clear hfi HA2 hB3 hA3 hB4 hA4 hA5
  go_upto_region 7 with fail
  generalize (W4.setCell ⟨w3.heap.size, 4, none⟩ (.int .u8 2)).setCell ⟨w3.heap.size, 1, none⟩ (.int .u8 0) = W6 at *
  clear hst4 hh4 u4 z4 u1 z1
  obtain ⟨W7, hW7, hB7, hr7, hs7, kc7⟩ := text3 W6 97 98 99
  have hlt7 : w3.heap.size < W6.heap.size := heap_lt hA6.boxed
  have hA7 : LA w P 900 (svC c) (andK (andK noK (Oct W6.heap.size [97, 98, 99])) (Box w3.heap.size #[.int .u8 127, .int .u8 0, .bool true, .bool true, .int .u8 2, .int .u8 0, .bool false, .slice none 0 0])) W7 := (hA6.oct hB7 hr7 hs7).to (stays_and (stays_and stays_no (stays_oct _ _)) (stays_box _ _)) fun _ _ e => ⟨⟨trivial, e.2⟩, e.1.2⟩
  have HA8 : Hid (LA w P 900 (svC c) (andK (andK noK (Oct W6.heap.size [97, 98, 99])) (Box w3.heap.size #[.int .u8 127, .int .u8 0, .bool true, .bool true, .int .u8 2, .int .u8 0, .bool false, .slice (some ⟨W6.heap.size, 0, none⟩) 3 3])) (W7.setCell ⟨w3.heap.size, 7, none⟩ (.slice (some ⟨W6.heap.size, 0, none⟩) 3 3))) := hA7.put 7 (.slice (some ⟨W6.heap.size, 0, none⟩) 3 3) hw3 (stays_and stays_no (stays_oct _ _)) (fun T e => ⟨trivial, oct_put (by omega) e.2⟩)
  have u7 := (unit_cells hA7.boxed).1.2.2.2.2.2.2.2
  have z7 := (unit_cells hA7.boxed).2 7
  rw [hW7] at u7 z7
  clear hA6 hA7 hB7 hr7 hs7 hlt7 hw3
  cases own
  · go_upto_region 8 with fail
    rw [← hW7]
    clear hW7 kc7
    generalize W7.setCell ⟨w3.heap.size, 7, none⟩ (.slice (some ⟨W6.heap.size, 0, none⟩) 3 3) = W8 at *
    generalize W6.heap.size = g6 at *
    generalize w3.heap.size = g3 at *
    clear u7 z7
    have HA1 : Hid (LA w P 900 (svC c) noK W8) := HA8.out.no
    have hlk := link_any 4 W8
    clear HA8
    go_wp2_with fail
    refine hlk.mono ?_
    rintro e w5 ⟨rfl, hB⟩
    have hhe := LA.hear0 (k := 890) (HA1.out.keep hB) 127 127 1 4 true true false (by decide) (by decide)
    clear hlk hB HA1
    go_wp2_with fail
    refine hhe.mono ?_
    rintro e w6 ⟨rfl, q1, hA⟩
    rw [oT_eq] at hA
    have HA6 : Hid (LA w P 900 (oT c) noK w6) := LA.room hA (oT_all c).1
    clear hhe hA
    go_wp2_with fail
    go_loopw [11] (fun i wr => ∃ j : Nat, j ≤ m ∧ i = .int .i64 j ∧ Hid (LA w P 900 (oT c) noK wr)) (fun i _ => m - (intOf i).toNat)
    case atStart => exact ⟨0, by omega, rfl, HA6⟩
    case round =>
      clear HA6
      obtain ⟨j, hj, rfl, HA⟩ := hrel
      by_cases hl : j < m
      · have hd : decide ((j : Int) < (m : Int)) = true := by rw [decide_eq_true_iff]; omega
        have hlk := link_any 4 wr
        go_wp2_with fail
        refine hlk.mono ?_
        rintro e w7 ⟨rfl, hB⟩
        have hhe := LA.hear0 (k := 890) (HA.out.keep hB) 127 127 1 4 true true false (by decide) (by decide)
        clear hlk hB HA
        go_wp2_with fail
        refine hhe.mono ?_
        rintro e w8 ⟨rfl, q1, hA⟩
        rw [oT_sipo] at hA
        have hti := LA.tick (k := 874) hA
        clear hhe hA
        go_wp2_with fail
        refine hti.mono ?_
        rintro e w9 ⟨rfl, hA⟩
        rw [(oT_all c).2.1] at hA
        have HA9 : Hid (LA w P 900 (oT c) noK w9) := LA.room hA (oT_all c).1
        clear hti hA
        go_wp2_with fail
        go_roundw
        case rel => exact ⟨j + 1, by omega, by go_num, HA9⟩
        case measure => simp [intOf]; omega
      · have hd : decide ((j : Int) < (m : Int)) = false := by rw [decide_eq_false_iff_not]; omega
        have hor := LA.order0 (k := 898) HA.out 9
        obtain ⟨o1, o2, o3, o4⟩ := oT_all c
        rw [o3, o4] at hor
        clear HA o1 o2 o3 o4
        go_wp2_with fail
        refine hor.mono ?_
        rintro e w7 ⟨rfl, hA⟩
        have HA7 : Hid (LA w P 898 (oT c) noK w7) := hA
        have hfi := lfill_any w7
        clear hor hA
        go_wp2_with fail
        refine hfi.mono ?_
        rintro e w8 ⟨rfl, hB⟩
        have hhe := LA.hear0 (k := 888) (HA7.out.keep hB) 127 127 0 0 true true false (by decide) (by decide)
        clear hfi hB HA7
        go_wp2_with fail
        refine hhe.mono ?_
        rintro e w9 ⟨rfl, q1, hA⟩
        rw [oI_eq] at hA
        obtain ⟨o1, o2, o3, o4, o5⟩ := oI_all c
        have c0 := hA.all.1
        rw [o1] at c0
        have hor := LA.order0 (k := 898) (LA.room hA o2) 9
        rw [o3] at hor
        clear hhe hA o1 o2 o3
        generalize (oI c).ord 9 [] = X at *
        go_wp2_with fail
        refine hor.mono ?_
        rintro e w10 ⟨rfl, hA⟩
        have hto := hA.told
        rw [o5] at hto
        clear hor hA c0 o5
        go_wp2_with fail
        refine hto.mono ?_
        rintro e w11 ⟨v, rfl, hA⟩
        obtain ⟨ao, cap, rfl, hcell⟩ := hA.read
        obtain ⟨g, rfl, hc⟩ := hcell 0 _ rfl
        have d0 : w11.cell? ⟨g, 0, none⟩ = some (.int .u8 4) := by simpa [tdC] using hc 0 (by omega)
        have d3 : w11.cell? ⟨g, 3, none⟩ = some (.int .u8 5) := by simpa [tdC] using hA.tcell 1 _ rfl 0 (by omega)
        have c0 := hA.all.1
        rw [took_s, o4] at c0
        have HB : Hid (Below w.heap.size w w11) := hA.below
        clear hto hA hcell hc o4
        go_wp2
        go_ret
        exact ⟨rfl, HB.out⟩
  · go_upto_region 8 with fail
    rw [← hW7]
    clear hW7 kc7
    generalize W7.setCell ⟨w3.heap.size, 7, none⟩ (.slice (some ⟨W6.heap.size, 0, none⟩) 3 3) = W8 at *
    generalize W6.heap.size = g6 at *
    generalize w3.heap.size = g3 at *
    clear u7 z7
    have hor := LA.order0 (k := 898) HA8.out 6
    clear HA8
    go_wp2_with fail
    refine hor.mono ?_
    rintro e w5 ⟨rfl, hA⟩
    have HA5 : Hid (LA w P 900 (oO c) (andK (andK noK (Oct g6 [97, 98, 99])) (Box g3 #[.int .u8 127, .int .u8 0, .bool true, .bool true, .int .u8 2, .int .u8 0, .bool false, .slice (some ⟨g6, 0, none⟩) 3 3])) w5) := LA.room (x := oO c) hA (oO_all c).2.2.1
    clear hor hA
    go_wp2_with fail
    go_loopw [9] (fun i wr => ∃ j : Nat, j ≤ m ∧ i = .int .i64 j ∧ Hid (LA w P 900 (oO c) (andK (andK noK (Oct g6 [97, 98, 99])) (Box g3 #[.int .u8 127, .int .u8 0, .bool true, .bool true, .int .u8 2, .int .u8 0, .bool false, .slice (some ⟨g6, 0, none⟩) 3 3])) wr)) (fun i _ => m - (intOf i).toNat)
    case atStart => exact ⟨0, by omega, rfl, HA5⟩
    case round =>
      clear HA5
      obtain ⟨j, hj, rfl, HA⟩ := hrel
      by_cases hl : j < m
      · have hd : decide ((j : Int) < (m : Int)) = true := by rw [decide_eq_true_iff]; omega
        have hlu := (ld_unit HA.out.boxed rfl).1
        have hhe := LA.hearO (k := 890) HA.out (fun T e => e.1.2) 127 0 2 0 true true false 3 3 (by decide) (by decide) rfl (by decide)
        clear HA
        go_wp2_with fail
        refine hhe.mono ?_
        rintro e w8 ⟨rfl, q1, hA⟩
        rw [oO_hear] at hA
        have hti := LA.tick (k := 874) hA
        clear hhe hA hlu
        go_wp2_with fail
        refine hti.mono ?_
        rintro e w9 ⟨rfl, hA⟩
        rw [(oO_all c).2.2.2.1] at hA
        have HA9 : Hid (LA w P 900 (oO c) (andK (andK noK (Oct g6 [97, 98, 99])) (Box g3 #[.int .u8 127, .int .u8 0, .bool true, .bool true, .int .u8 2, .int .u8 0, .bool false, .slice (some ⟨g6, 0, none⟩) 3 3])) w9) := (LA.room hA (oO_all c).2.2.1).to (stays_and (stays_and stays_no (stays_oct _ _)) (stays_box _ _)) fun _ _ e => e.1
        clear hti hA
        go_wp2_with fail
        go_roundw
        case rel => exact ⟨j + 1, by omega, by go_num, HA9⟩
        case measure => simp [intOf]; omega
      · have hd : decide ((j : Int) < (m : Int)) = false := by rw [decide_eq_false_iff_not]; omega
        obtain ⟨o1, o2, o3, o4, o5, o6, o7, o8⟩ := oO_all c
        have c0 := HA.out.all.1
        rw [o1] at c0
        have hto := HA.out.told
        rw [o2, o5] at hto
        clear HA
        go_wp2_with fail
        refine hto.mono ?_
        rintro e w7 ⟨v, rfl, hA⟩
        obtain ⟨ao, cap, rfl, -⟩ := hA.read
        have hnx := (hA.to (K' := andK (andK noK (Oct g6 [97, 98, 99])) (Box g3 #[.int .u8 127, .int .u8 0, .bool true, .bool true, .int .u8 2, .int .u8 0, .bool false, .slice (some ⟨g6, 0, none⟩) 3 3])) (stays_and (stays_and stays_no (stays_oct _ _)) (stays_box _ _)) fun _ _ e => e.1).next
        rw [o6, o7] at hnx
        clear hto hA c0
        go_wp2_with fail
        refine hnx.mono ?_
        rintro e w8 ⟨⟨a', b', c', d', ao', n', cap', rfl⟩, hA⟩
        have hfd := field_so a' b' c' d' (oO c).nk 4 false (.slice ao' n' cap') w8
        have hor := LA.order0 (k := 898) hA 7
        rw [o8] at hor
        clear hnx hA o1 o2 o3 o4 o5 o6 o7 o8
        go_wp2_with fail
        refine hor.mono ?_
        rintro e w9 ⟨rfl, hA⟩
        have c0 : w9.cell? ⟨P.b, 0, none⟩ = some (.int .u8 4) := by rw [hA.all.1]; cases c <;> rfl
        have hlu := (ld_unit hA.boxed rfl).1
        have hhe := LA.hearO (k := 888) hA (fun T e => e.1.2) 127 0 2 0 true true false 3 3 (by decide) (by decide) rfl (by decide)
        clear hor hA hfd
        go_wp2_with fail
        refine hhe.mono ?_
        rintro e w10 ⟨rfl, q1, hA⟩
        have hto := hA.told
        rw [oB_told] at hto
        clear hhe hA hlu c0
        go_wp2_with fail
        refine hto.mono ?_
        rintro e w11 ⟨v, rfl, hA⟩
        obtain ⟨ao, cap, rfl, hcell⟩ := hA.read
        obtain ⟨g, rfl, hc⟩ := hcell 0 _ rfl
        obtain ⟨vo, vc, rfl, hrd⟩ : ∃ vo vc, q1 = .slice vo 3 vc ∧ Reads w11 vo (([97, 98, 99] : List Int).map (.int .u8)) := hA.the fun T e => by
          obtain ⟨vo, vc, e1, e2, -⟩ := e.1.2 (oB_gets c)
          exact ⟨vo, vc, e1, e2⟩
        have hcv := conv_reads (n := 3) (cap := vc) rfl hrd
        rw [str_abc] at hcv
        have d0 : w11.cell? ⟨g, 0, none⟩ = some (.int .u8 3) := by simpa [tdC] using hc 0 (by omega)
        have d2 : w11.cell? ⟨g, 2, none⟩ = some (.slice vo 3 vc) := by simpa [tdC] using hc 2 (by omega)
        have HB : Hid (Below w.heap.size w w11) := hA.below
        clear hto hA hcell hc hrd
        go_wp2
        go_ret
        exact ⟨rfl, HB.out⟩
end Go.Proofs.YtldjglmelbkngaaGreat.Tape
