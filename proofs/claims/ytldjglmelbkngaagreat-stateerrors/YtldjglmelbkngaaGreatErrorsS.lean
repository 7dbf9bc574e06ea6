/- The walk of the law StateErrors. -/
import Derived.Test.YtldjglmelbkngaaGreatClo3
import Derived.Test.YtldjglmelbkngaaGreatState20
import Derived.Test.YtldjglmelbkngaaGreatOddW
namespace Go.Proofs.YtldjglmelbkngaaGreat.Tape
open Go.ChangeShapes Go.WideShapes Go.ChangeAt Go.RowKit
set_option linter.unusedVariables false

attribute [local go_sem ↓] ldU_def stU_def

set_option maxRecDepth 100000 in
set_option maxHeartbeats 4000000 in
theorem errors_walk (c : Bool) (a : Option Addr) (len cap : Nat) (r : Int) (w : World) (h : Bools w a len) (r0 : 0 ≤ r) (r1 : r ≤ 255) : Calls Tryz.prog 5 #[.bool c, .slice a len cap, .int .u8 r] w fun e w' => e = .returned (.bool true) ∧ Below w.heap.size w w' := by
  obtain ⟨bs, hbl, hlm, hrd⟩ := h
  unfold maxLen at hlm
  have haw := awake17_any w
  by_cases hlong : 200 < len
  · have hd : decide ((200 : Int) < (len : Int)) = true := by rw [decide_eq_true_iff]; omega
    clear hrd hbl
    go_enter Tryz.func5, Tryz.ntmps5
    go_wp2_with fail
    refine haw.mono ?_
    rintro e w1 ⟨rfl, hB1⟩
    have haw2 := awake17_any w1
    clear haw
    go_wp2_with fail
    refine haw2.mono ?_
    rintro e w2 ⟨rfl, hB2⟩
    go_wp2
    go_ret
    exact ⟨rfl, hB1.trans (below_le hB2 hB1.size)⟩
  have hd : decide ((200 : Int) < (len : Int)) = false := by rw [decide_eq_false_iff_not]; omega
  obtain ⟨m, hm⟩ : ∃ m : Nat, (256 : Int) + r = (m : Int) := ⟨(256 + r).toNat, by omega⟩
  have hm2 : 256 ≤ m ∧ m < 600 := by omega
  have HRD : Hid (Reads w a (bs.map .bool)) := hrd
  have HBL : Hid (bs.length = len) := hbl
  have HM : Hid ((256 : Int) + r = (m : Int)) := hm
  clear hrd hbl hm
  go_enter Tryz.func5, Tryz.ntmps5
  go_wp2_with fail
  refine haw.mono ?_
  rintro e w1 ⟨rfl, hB1⟩
  have hsv := serving_any c w1
  have HB1 : Hid (Below w.heap.size w w1) := hB1
  clear haw hB1
  go_wp2_with fail
  refine hsv.mono ?_
  rintro e w2 ⟨P, rfl, hcy, hPB, hA⟩
  have HA2 : Hid (∃ x, EX c x ∧ LA w P 900 x noK w2) := ⟨svC c, .inr ⟨lk0, rfl, (eR_ok 256 0).1⟩, hA.base HB1.out⟩
  clear hsv hcy hPB hA HB1 hd hlong
  go_wp2_with fail
  go_loopw [8] (fun i wr => ∃ j : Nat, j ≤ len ∧ i = .int .i64 j ∧ Hid (∃ x, EX c x ∧ LA w P 900 x noK wr)) (fun i _ => len - (intOf i).toNat)
  case atStart => exact ⟨0, by omega, rfl, HA2⟩
  case round =>
    clear HA2
    obtain ⟨j, hj, rfl, HA⟩ := hrel
    by_cases hl : j < len
    · have hd : decide ((j : Int) < (len : Int)) = true := by rw [decide_eq_true_iff]; omega
      have hkb : j < bs.length := by have := HBL.out; omega
      obtain ⟨x, hx, hA⟩ := HA.out
      obtain ⟨g, off, rfl, hck⟩ := (HRD.out.below (Nat.le_refl _) hA.below).bool j hkb
      have HX : Hid (EX c x) := hx
      generalize bs[j] = b at hck
      clear HA hx hkb
      cases b
      · have hfi := lfill_any wr
        have HA1 : Hid (LA w P 900 x noK wr) := hA
        clear hA
        go_wp2_with fail
        refine hfi.mono ?_
        rintro e w6 ⟨rfl, hB⟩
        have hhe := LA.hear0 (k := 890) (HA1.out.keep hB) 127 127 0 0 true true false (by decide) (by decide)
        clear hfi hB HA1 hck
        go_wp2_with fail
        refine hhe.mono ?_
        rintro e w7 ⟨rfl, q2, hA⟩
        have HA7 : Hid (∃ x, EX c x ∧ LA w P 900 x noK w7) := ⟨_, HX.out.hear q2, LA.room hA (HX.out.hear q2).room⟩
        clear hhe hA HX
        go_wp2_with fail
        go_roundw
        case rel => exact ⟨j + 1, by omega, by go_num, HA7⟩
        case measure => simp [intOf]; omega
      · have hdm := LA.damage (k := 897) hA
        clear hA
        go_wp2_with fail
        refine hdm.mono ?_
        rintro e w7 ⟨rfl, hA⟩
        have HA7 : Hid (∃ x, EX c x ∧ LA w P 900 x noK w7) := ⟨_, HX.out.dmg, LA.room hA HX.out.dmg.room⟩
        clear hdm hA HX hck
        go_wp2_with fail
        go_roundw
        case rel => exact ⟨j + 1, by omega, by go_num, HA7⟩
        case measure => simp [intOf]; omega
    have hd : decide ((j : Int) < (len : Int)) = false := by rw [decide_eq_false_iff_not]; omega
    have HA2 : Hid (∃ x, EJ c 0 x ∧ LA w P 900 x noK wr) := HA.out.elim fun x e => ⟨x, e.1.zero, e.2⟩
    clear HA HRD HBL
    go_wp2_with fail
    clear hd hl hj
    go_loopw [9] (fun i wr => ∃ j : Nat, j ≤ 64 ∧ i = .int .i64 j ∧ Hid (∃ x, EJ c j x ∧ LA w P 900 x noK wr)) (fun i _ => 64 - (intOf i).toNat)
    case atStart => exact ⟨0, by omega, rfl, HA2⟩
    case round =>
      clear HA2
      obtain ⟨j, hj, rfl, HA⟩ := hrel
      by_cases hl : j < 64
      · have hd : decide ((j : Int) < 64) = true := by rw [decide_eq_true_iff]; omega
        obtain ⟨x, hx, hA⟩ := HA.out
        have HX : Hid (EJ c j x) := hx
        have hdm := LA.damage (k := 897) hA
        clear hA HA hx
        go_wp2_with fail
        refine hdm.mono ?_
        rintro e w7 ⟨rfl, hA⟩
        have HA7 : Hid (∃ x, EJ c (j + 1) x ∧ LA w P 900 x noK w7) := ⟨_, HX.out.step hl, LA.room hA (HX.out.step hl).ex.room⟩
        clear hdm hA HX
        go_wp2_with fail
        go_roundw
        case rel => exact ⟨j + 1, by omega, by go_num, HA7⟩
        case measure => simp [intOf]; omega
      have hd : decide ((j : Int) < 64) = false := by rw [decide_eq_false_iff_not]; omega
      have hj64 : j = 64 := by omega
      have HA3 : Hid (LA w P 900 (eX c) noK wr) := HA.out.elim fun x e => e.2.eq (EJ.last (by rw [← hj64]; exact e.1))
      have hto := HA3.out.told
      obtain ⟨o1, o2, -⟩ := eX_all c
      rw [o2] at hto
      clear HA hj64 HA3 o2
      go_wp2_with fail
      refine hto.mono ?_
      rintro e w8 ⟨v, rfl, hA⟩
      obtain ⟨ao, cap', rfl, hcell⟩ := hA.read
      obtain ⟨g, rfl, hc⟩ := hcell 0 _ rfl
      have d1 : w8.cell? ⟨g, 1, none⟩ = some (.int .u8 1) := by simpa [tdC] using hc 1 (by omega)
      have c0 := hA.all.1
      rw [took_s, o1] at c0
      have HB8 : Hid (Below w.heap.size w w8) := hA.below
      have hsv := serving_any c w8
      clear hto hA hcell hc o1
      go_wp2_with fail
      refine hsv.mono ?_
      rintro e w9 ⟨P2, rfl, -, -, hA⟩
      have HA9 : Hid (LA w P2 900 (eS c (eR m 0)) noK w9) := (hA.base HB8.out).eq rfl
      clear hsv hA HB8 c0 d1 hd hl hj
      go_wp2_with fail
      go_loopw [12] (fun i wr => ∃ j : Nat, j ≤ 1000 ∧ i = .int .i64 j ∧ Hid (LA w P2 900 (eS c (eR m j)) noK wr)) (fun i _ => 1000 - (intOf i).toNat)
      case atStart => exact ⟨0, by omega, rfl, HA9⟩
      case round =>
        clear HA9
        obtain ⟨j, hj, rfl, HA⟩ := hrel
        by_cases hl : j < 1000
        · have hd : decide ((j : Int) < 1000) = true := by rw [decide_eq_true_iff]; omega
          have hm := HM.out
          have htm : (j : Int).tmod (256 + r) = ((j % m : Nat) : Int) := by
            rw [hm, Int.tmod_eq_emod_of_nonneg (by omega)]
            omega
          have hne : ¬ (256 + r = 0) := by omega
          have hjm : j % m < 1000 := by have := Nat.mod_lt j (show 0 < m by omega); omega
          by_cases h0 : j % m = 0
          · have hz : (((j % m : Nat) : Int) == 0) = true := by rw [h0]; rfl
            have hdm := LA.damage (k := 897) HA.out
            rw [eR_dmg c m j hm2.1 h0] at hdm
            clear HA hm h0
            go_wp2_with fail
            refine hdm.mono ?_
            rintro e w10 ⟨rfl, hA⟩
            have hA := LA.room hA (eS_room c _ (eR_ok m (j + 1)).1)
            have hwr := hA.wrong
            have hn1 : decide ((1 : Int) < ((eS c (eR m (j + 1))).lk.n : Int)) = false := by
              rw [decide_eq_false_iff_not]
              have := (eR_ok m (j + 1)).2
              show ¬ (1 : Int) < ((eR m (j + 1)).n : Int)
              omega
            have HA10 : Hid (LA w P2 900 (eS c (eR m (j + 1))) noK w10) := hA
            generalize (eS c (eR m (j + 1))).lk.n = N at *
            clear hdm hA
            go_wp2_with fail
            refine hwr.mono ?_
            rintro e w11 ⟨rfl, rfl⟩
            clear hwr
            go_wp2_with fail
            go_roundw
            case rel => exact ⟨j + 1, by omega, by go_num, HA10⟩
            case measure => simp [intOf]; omega
          · have hz : (((j % m : Nat) : Int) == 0) = false := by rw [beq_eq_false_iff_ne]; omega
            have hfi := lfill_any wr
            have HA1 : Hid (LA w P2 900 (eS c (eR m j)) noK wr) := HA
            have H0 : Hid (¬ j % m = 0) := h0
            clear HA hm h0
            go_wp2_with fail
            refine hfi.mono ?_
            rintro e w9 ⟨rfl, hB⟩
            have hhe := LA.hear0 (k := 890) (HA1.out.keep hB) 127 127 0 0 true true false (by decide) (by decide)
            clear hfi hB HA1
            go_wp2_with fail
            refine hhe.mono ?_
            rintro e w10 ⟨rfl, q2, hA⟩
            rw [eR_hear c m j hm2.1 H0.out] at hA
            have hA := LA.room hA (eS_room c _ (eR_ok m (j + 1)).1)
            have hwr := hA.wrong
            have hn1 : decide ((1 : Int) < ((eS c (eR m (j + 1))).lk.n : Int)) = false := by
              rw [decide_eq_false_iff_not]
              have := (eR_ok m (j + 1)).2
              show ¬ (1 : Int) < ((eR m (j + 1)).n : Int)
              omega
            have HA10 : Hid (LA w P2 900 (eS c (eR m (j + 1))) noK w10) := hA
            generalize (eS c (eR m (j + 1))).lk.n = N at *
            clear hhe hA H0
            go_wp2_with fail
            refine hwr.mono ?_
            rintro e w11 ⟨rfl, rfl⟩
            clear hwr
            go_wp2_with fail
            go_roundw
            case rel => exact ⟨j + 1, by omega, by go_num, HA10⟩
            case measure => simp [intOf]; omega
        have hd : decide ((j : Int) < 1000) = false := by rw [decide_eq_false_iff_not]; omega
        have c0 := HA.out.all.1
        have c0 : wr.cell? ⟨P2.b, 0, none⟩ = some (.int .u8 4) := by
          rw [c0]
          cases c <;> rfl
        have hfl := HA.out.fails
        rw [show (eS c (eR m j)).fl = 0 from by cases c <;> rfl] at hfl
        have HB : Hid (Below w.heap.size w wr) := HA.out.below
        clear HA hl hj
        go_wp2_with fail
        refine hfl.mono ?_
        rintro e w11 ⟨rfl, rfl⟩
        clear hfl
        go_wp2
        go_ret
        exact ⟨rfl, HB.out⟩
end Go.Proofs.YtldjglmelbkngaaGreat.Tape
