/- The walk of the law StateUnfit. -/
import Derived.Test.YtldjglmelbkngaaGreatClo1
import Derived.Test.YtldjglmelbkngaaGreatState20
namespace Go.Proofs.YtldjglmelbkngaaGreat.Tape
open Go.ChangeShapes Go.WideShapes Go.ChangeAt Go.RowKit
set_option linter.unusedVariables false

attribute [local go_sem ↓] ldU_def stU_def

set_option maxRecDepth 100000 in
set_option maxHeartbeats 4000000 in
theorem unfit_walk (c : Bool) (n gap : Int) (w : World) (n0 : 0 ≤ n) (n1 : n ≤ 255) (l0 : 0 ≤ gap) (l1 : gap ≤ 255) : Calls Tryz.prog 13 #[.bool c, .int .u8 n, .int .u8 gap] w fun e w' => e = .returned (.bool true) ∧ Below w.heap.size w w' := by
  have haw := awake17_any w
  have hnm : n.tmod 127 = n % 127 := Int.tmod_eq_emod_of_nonneg n0
  obtain ⟨b, hb⟩ : ∃ b, n % 127 = b := ⟨_, rfl⟩
  have hb127 : 0 ≤ b ∧ b < 127 := by omega
  rw [hb] at hnm
  have hlm : gap.tmod 4 = gap % 4 := Int.tmod_eq_emod_of_nonneg l0
  obtain ⟨k, hk⟩ : ∃ k : Nat, gap % 4 = (k : Int) := ⟨(gap % 4).toNat, by omega⟩
  have hk4 : k < 4 := by omega
  rw [hk] at hlm
  clear hb hk
  go_enter Tryz.func13, Tryz.ntmps13
  go_wp2_with fail
  refine haw.mono ?_
  rintro e w1 ⟨rfl, hB1⟩
  have hsv := serving_any c w1
  have HB1 : Hid (Below w.heap.size w w1) := hB1
  clear haw hB1
  go_wp2_with fail
  refine hsv.mono ?_
  rintro e w2 ⟨P, rfl, hcy, hPB, hA⟩
  have HA2 : Hid (LA w P 900 (uS c false false) noK w2) := (hA.base HB1.out).eq (by cases c <;> rfl)
  have hfi := lfill_any w2
  clear hsv hcy hPB hA HB1
  go_wp2_with fail
  refine hfi.mono ?_
  rintro e w3 ⟨rfl, hB3⟩
  have hA3 := HA2.out.keep hB3
  obtain ⟨W4, hst4, hB4, hh4⟩ := kept_any w3 #[.int .u8 127, .int .u8 127, .bool true, .bool true, .int .u8 0, .int .u8 0, .bool false, .slice none 0 0] rfl (by simp [Value.oneCell'])
  have hA4 := hA3.box hB4 hh4
  have hA5 : LA w P 900 (uS c false false) (andK noK (Box w3.heap.size #[.int .u8 b, .int .u8 127, .bool true, .bool true, .int .u8 0, .int .u8 0, .bool false, .slice none 0 0])) (W4.setCell ⟨w3.heap.size, 0, none⟩ (.int .u8 b)) := hA4.put 0 (.int .u8 b) hA3.below.size stays_no (fun _ _ => trivial)
  have hlu := (ld_unit hA5.boxed rfl).1
  have u0 := (unit_cells hh4).1.1
  have z0 := (unit_cells hh4).2 0
  have hhe := LA.hear0 (k := 890) hA5 b 127 0 0 true true false (by omega) (by omega)
  clear hfi HA2 hB3 hA3 hB4 hh4 hA4 hA5
  go_upto_region 5 with fail
  clear hst4
  go_wp2_with fail
  refine hhe.mono ?_
  rintro e w5 ⟨rfl, q1, hA⟩
  rw [uS_odd c b hb127] at hA
  have HA5 : Hid (LA w P 800 (uJ c 0) (andK noK (Box w3.heap.size #[.int .u8 b, .int .u8 127, .bool true, .bool true, .int .u8 0, .int .u8 0, .bool false, .slice none 0 0])) w5) := LA.mono (x := uJ c 0) hA (by omega)
  have c0 := hA.all.1
  rw [uS_s] at c0
  clear hhe hlu u0 z0 hA
  generalize W4.heap.size = g4 at *
  generalize w3.heap.size = g3 at *
  go_wp2_with fail
  go_loopw [10] (fun i wr => ∃ j : Nat, j ≤ k ∧ i = .int .i64 j ∧ Hid (LA w P 800 (uJ c j) (andK noK (Box g3 #[.int .u8 b, .int .u8 127, .bool true, .bool true, .int .u8 0, .int .u8 0, .bool false, .slice none 0 0])) wr)) (fun i _ => k - (intOf i).toNat)
  case atStart => exact ⟨0, by omega, rfl, HA5⟩
  case round =>
    clear HA5 c0
    obtain ⟨j, hj, rfl, HA⟩ := hrel
    by_cases hl : j < k
    · have hd : decide ((j : Int) < (k : Int)) = true := by rw [decide_eq_true_iff]; omega
      have hfi := lfill_any wr
      go_wp2_with fail
      refine hfi.mono ?_
      rintro e w6 ⟨rfl, hB⟩
      have hhe := LA.hear0 (k := 890) ((HA.out.keep hB).room (uS_room _ _ _)) 127 127 0 0 true true false (by decide) (by decide)
      clear hfi hB HA
      go_wp2_with fail
      refine hhe.mono ?_
      rintro e w7 ⟨rfl, q2, hA⟩
      rw [uJ_fill] at hA
      have HA7 := (show Hid _ from (hA.mono (k' := 800) (by omega)))
      clear hhe hA
      go_wp2_with fail
      go_roundw
      case rel => exact ⟨j + 1, by omega, by go_num, HA7⟩
      case measure => simp [intOf]; omega
    · have hd : decide ((j : Int) < (k : Int)) = false := by rw [decide_eq_false_iff_not]; omega
      have hjk : j = k := by omega
      have HA : Hid (LA w P 900 (uJ c k) (andK noK (Box g3 #[.int .u8 b, .int .u8 127, .bool true, .bool true, .int .u8 0, .int .u8 0, .bool false, .slice none 0 0])) wr) := (show LA w P 900 (uJ c j) _ wr from HA.out.room (uS_room _ _ _)).eq (by rw [hjk])
      have hlu := (ld_unit HA.out.boxed rfl).1
      have hhe := LA.hear0 (k := 890) HA.out b 127 0 0 true true false (by omega) (by omega)
      clear hjk HA
      by_cases h2 : 2 ≤ k
      · have hd2 : decide (2 ≤ (k : Int)) = true := by rw [decide_eq_true_iff]; omega
        have hu : uJ c k = uS c false false := by unfold uJ; rw [decide_eq_false (by omega), decide_eq_false (by omega)]
        rw [hu] at hhe
        go_wp2_with fail
        refine hhe.mono ?_
        rintro e w8 ⟨rfl, q2, hA⟩
        rw [uS_odd c b hb127] at hA
        have c0 := hA.all.1
        rw [uS_s] at c0
        have HB : Hid (Below w.heap.size w w8) := hA.below
        clear hhe hlu hA hu
        go_wp2
        go_ret
        exact ⟨rfl, HB.out⟩
      · have hd2 : decide (2 ≤ (k : Int)) = false := by rw [decide_eq_false_iff_not]; omega
        have hor : (decide (k = 0) || decide (k = 1)) = true := by
          have : k = 0 ∨ k = 1 := by omega
          rcases this with rfl | rfl <;> rfl
        go_wp2_with fail
        refine hhe.mono ?_
        rintro e w8 ⟨rfl, q2, hA⟩
        obtain ⟨o1, o2⟩ := uS_out c (decide (k = 0)) (decide (k = 1)) b hb127 hor q2
        have hto := LA.told hA
        unfold uJ at hto
        rw [o2] at hto
        have HS := (show Hid _ from ((took_s _).trans o1))
        clear hhe hlu hA o1 o2 hor
        go_wp2_with fail
        refine hto.mono ?_
        rintro e w9 ⟨v, rfl, hA⟩
        obtain ⟨ao, cap, rfl, hcell⟩ := hA.read
        obtain ⟨g, rfl, hc⟩ := hcell 0 _ rfl
        have d1 : w9.cell? ⟨g, 1, none⟩ = some (.int .u8 4) := by simpa [tdC] using hc 1 (by omega)
        have c0 := hA.all.1
        rw [HS.out] at c0
        have HB : Hid (Below w.heap.size w w9) := hA.below
        clear hto hA hcell hc HS
        go_wp2
        go_ret
        exact ⟨rfl, HB.out⟩
end Go.Proofs.YtldjglmelbkngaaGreat.Tape
