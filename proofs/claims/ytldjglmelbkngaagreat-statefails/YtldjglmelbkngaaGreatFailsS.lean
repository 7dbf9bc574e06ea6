/- The walk of the law StateFails. -/
import Derived.Test.YtldjglmelbkngaaGreatWaitsS
import Derived.Deep.RegionHeld
import Derived.Deep.RegionHeld3
namespace Go.Proofs.YtldjglmelbkngaaGreat.Tape
open Go.ChangeShapes Go.WideShapes Go.ChangeAt Go.RowKit
set_option linter.unusedVariables false

attribute [local go_sem ↓] ldU_def stU_def
attribute [local go_sem] m_hold c_hold

theorem field_st (a b : Int) (c d : Bool) (k st : Int) (wd : Bool) (x : Value) (w : World) : (Instr.field 32 (.agg #[.int .u8 a, .int .u8 b, .bool c, .bool d, .int .u8 k, .int .u8 st, .bool wd, x]) 5).run Tryz.prog w = .ok (.int .u8 st) w := by
  show _ = _
  kernel_rfl

set_option maxRecDepth 100000 in
set_option maxHeartbeats 4000000 in
theorem fails_walk (c : Bool) (n st : Int) (hal : Bool) (w : World) (n0 : 0 ≤ n) (n1 : n ≤ 255) (l0 : 0 ≤ st) (l1 : st ≤ 255) : Calls Tryz.prog 12 #[.bool c, .int .u8 n, .int .u8 st, .bool hal] w fun e w' => e = .returned (.bool true) ∧ Below w.heap.size w w' := by
  have haw := awake17_any w
  have hnm : n.tmod 6 = n % 6 := Int.tmod_eq_emod_of_nonneg n0
  obtain ⟨q, hq⟩ : ∃ q : Nat, n % 6 = (q : Int) := ⟨(n % 6).toNat, by omega⟩
  have hq5 : q ≤ 5 := by omega
  rw [hq] at hnm
  have hlm : st.tmod 4 = st % 4 := Int.tmod_eq_emod_of_nonneg l0
  obtain ⟨s, hs⟩ : ∃ s, st % 4 = s := ⟨_, rfl⟩
  have hs4 : 0 ≤ s ∧ s < 4 := by omega
  rw [hs] at hlm
  clear hq hs
  go_enter Tryz.func12, Tryz.ntmps12
  go_wp2_with fail
  refine haw.mono ?_
  rintro e w1 ⟨rfl, hB1⟩
  have hsv := serving_any c w1
  have HB1 : Hid (Below w.heap.size w w1) := hB1
  clear haw hB1
  go_wp2_with fail
  refine hsv.mono ?_
  rintro e w2 ⟨P, rfl, hcy, hPB, hA⟩
  have HA2 : Hid (LA w P 900 (fS c 0) noK w2) := hA.base HB1.out
  clear hsv hcy hPB hA HB1
  go_wp2_with fail
  go_loopw [11] (fun i wr => ∃ j : Nat, j ≤ q ∧ i = .int .i64 j ∧ Hid (LA w P 900 (fS c j) noK wr)) (fun i _ => q - (intOf i).toNat)
  case atStart => exact ⟨0, by omega, rfl, HA2⟩
  case round =>
    clear HA2
    obtain ⟨j, hj, rfl, HA⟩ := hrel
    by_cases hl : j < q
    · have hd : decide ((j : Int) < (q : Int)) = true := by rw [decide_eq_true_iff]; omega
      have hw : IntKind.u8.wrap (j : Int) = j := IntWalk.u8_in _ (by omega)
      have hBa : Below wr.heap.size wr (wr.alloc (.cells #[.int .u8 j, .int .u8 1, .int .u8 2] 5)) := (Below.refl _ _).alloc (Nat.le_refl _) _
      have hor := LA.order (k := 898) (HA.out.keep hBa) 5 (some ⟨wr.heap.size, 0, none⟩) 3 3 [(j : Int), 1, 2] rfl (by omega) (oct3 wr j 1 2) (by simp; omega)
      clear hBa HA
      go_wp2_with fail
      refine hor.mono ?_
      rintro e w3 ⟨rfl, hA⟩
      have hnx := hA.next
      clear hor hA
      go_wp2_with fail
      refine hnx.mono ?_
      rintro e w4 ⟨⟨a', b', c', d', ao', n', cap', rfl⟩, hA⟩
      have HA4 : Hid (LA w P 900 (fS c (j + 1)) noK w4) := LA.room (x := fS c (j + 1)) hA (fS_room c (j + 1) (by omega))
      clear hnx hA
      go_wp2_with fail
      go_roundw
      case rel => exact ⟨j + 1, by omega, by go_num, HA4⟩
      case measure => simp [intOf]; omega
    · have hd : decide ((j : Int) < (q : Int)) = false := by rw [decide_eq_false_iff_not]; omega
      have hjq : j = q := by omega
      have HA3 : Hid (LA w P 900 (fS c q) noK wr) := HA.out.eq (by rw [hjq])
      clear HA hjq
      have HM : Hid (∀ (q0 : Value) (W : World), LA w P 900 (fH c q hal q0) noK W → True) := fun _ _ _ => trivial
      clear HM
      have KEY : ∀ (q0 : Value) (W : World), LA w P 900 (fH c q hal q0) noK W → Hid (∃ q0, LA w P 900 (fH c q hal q0) noK W) := fun q0 W h => ⟨q0, h⟩
      cases hal
      · have HA5 : Hid (∃ q0, LA w P 900 (fH c q false q0) noK wr) := KEY nilV wr HA3.out
        clear KEY HA3
        obtain ⟨q0, hA⟩ := HA5.out
        have hlk := link_any s wr
        clear HA5
        go_wp2_with fail
        refine hlk.mono ?_
        rintro e w6 ⟨rfl, hB⟩
        have hhe := LA.hear0 (k := 890) (hA.keep hB) 127 127 1 s true true false (by decide) (by decide)
        clear hlk hB hA
        go_wp2_with fail
        refine hhe.mono ?_
        rintro e w7 ⟨rfl, q2, hA⟩
        obtain ⟨r1, r2, r3, r4, r5, r6⟩ := fR_all c q hq5 false s hs4 q0 q2
        have hto := LA.told (x := fR c q false s q0 q2) hA
        rw [r2] at hto
        generalize fR c q false s q0 q2 = X at *
        have HR : Hid (X.took.s = 0 ∧ X.hs = X.hs ∧ (X.hs.sent.length : Int) + (X.hs.next.length : Int) = q ∧ X.took.ns = 3) := ⟨(took_s _).trans r1, rfl, r3, r4⟩
        have HX : Hid (X.took.next.s = 0 ∧ lft X.took.next.A.xs 7 = 0) := ⟨r6, r5⟩
        clear hhe hA r1 r2 r3 r4 r5 r6
        by_cases h3 : s = 3
        · skip
          have s3 : (s == 3) = true := by rw [h3]; rfl
          rw [if_pos h3] at hto
          go_wp2_with fail
          refine hto.mono ?_
          rintro e w8 ⟨v, rfl, hA⟩
          obtain ⟨ao, cap, rfl, hcell⟩ := hA.read
          obtain ⟨g, rfl, -⟩ := hcell 0 _ rfl
          have hAd := hA.keep (Below.refl _ _).drew
          have HC : Hid (∀ k X Y, LA w P k X (andK noK (Tld (.slice (some ⟨g, 0, none⟩) 1 cap) [tdC 2 8 nilV])) Y → Y.cell? ⟨g, 0, none⟩ = some (.int .u8 2) ∧ Y.cell? ⟨g, 1, none⟩ = some (.int .u8 8)) := fun k X Y h => ⟨by simpa [tdC] using h.tcell 0 _ rfl 0 (by omega), by simpa [tdC] using h.tcell 0 _ rfl 1 (by omega)⟩
          obtain ⟨d0, d1⟩ := HC.out _ _ _ hAd
          obtain ⟨c0, c1, -, c4, -⟩ := hAd.all
          rw [HR.out.1] at c0
          have hho := hAd.hold
          have hse := hAd.sent
          have hne := hAd.nexts
          have hnx := hAd.next
          rw [HR.out.2.2.2] at hnx
          have hS : w8.drew.cell? ⟨P.b, 0, none⟩ = some (.int .u8 0) ∧ w8.drew.cell? ⟨P.b, 1, none⟩ = some (.pointer (some ⟨P.c, 0, none⟩)) ∧ w8.drew.cell? ⟨P.b, 4, none⟩ = some (.iface (wT P.cy) (.pointer (some ⟨P.p, 0, none⟩))) ∧ w8.drew.cell? ⟨g, 0, none⟩ = some (.int .u8 2) ∧ w8.drew.cell? ⟨g, 1, none⟩ = some (.int .u8 8) := ⟨c0, c1, c4, d0, d1⟩
          have HL : Hid (X.took.next.s = 0 ∧ lft X.took.next.A.xs 7 = 0) := HX.out
          have hsum := HR.out.2.2.1
          rw [took_hs] at hse hne
          generalize (X.hs.sent.length : Int) = n1 at *
          generalize (X.hs.next.length : Int) = n2 at *
          have hwr : IntKind.i64.wrap (q : Int) = (q : Int) := IntWalk.i64_in _ (by omega)
          clear hto hA hcell hAd c0 c1 c4 d0 d1
          go_upto_region 19 with fail
          go_region_held (fun Y => Y.cell? ⟨P.b, 0, none⟩ = some (.int .u8 0) ∧ Y.cell? ⟨P.b, 1, none⟩ = some (.pointer (some ⟨P.c, 0, none⟩)) ∧ Y.cell? ⟨P.b, 4, none⟩ = some (.iface (wT P.cy) (.pointer (some ⟨P.p, 0, none⟩))) ∧ Y.cell? ⟨g, 0, none⟩ = some (.int .u8 2) ∧ Y.cell? ⟨g, 1, none⟩ = some (.int .u8 8)) (assumption)
            (first
            | (with_reducible change Calls Tryz.prog (fHold _) _ _ _; refine hho.mono ?_; rintro e w9 ⟨rfl, hw9⟩; obtain rfl := hw9.symm; clear hw9)
            | (go_at_call 29; refine hse.mono ?_; rintro e w9 ⟨rfl, hw9⟩; obtain rfl := hw9.symm; clear hw9)
            | (go_at_call 32; refine hne.mono ?_; rintro e w9 ⟨rfl, hw9⟩; obtain rfl := hw9.symm; clear hw9)
            | (go_at_call 21; refine hnx.mono ?_; rintro e wn ⟨⟨a', b', c', d', ao', n', cap', rfl⟩, hAn⟩; have hfd := field_st a' b' c' d' X.took.nk 3 false (.slice ao' n' cap') wn; have hSn : wn.cell? ⟨P.b, 0, none⟩ = some (.int .u8 0) ∧ wn.cell? ⟨P.b, 1, none⟩ = some (.pointer (some ⟨P.c, 0, none⟩)) ∧ wn.cell? ⟨P.b, 4, none⟩ = some (.iface (wT P.cy) (.pointer (some ⟨P.p, 0, none⟩))) ∧ wn.cell? ⟨g, 0, none⟩ = some (.int .u8 2) ∧ wn.cell? ⟨g, 1, none⟩ = some (.int .u8 8) := ⟨by rw [← HL.out.1]; exact hAn.all.1, hAn.all.2.1, hAn.all.2.2.2.1, HC.out _ _ _ hAn⟩; have hon := hAn.on 7; rw [HL.out.2] at hon; have HBn : Hid (Below w.heap.size w wn) := hAn.below; clear hAn)
            | (go_at_call 30; refine hon.mono ?_; rintro e w9 ⟨rfl, hw9⟩; obtain rfl := hw9.symm; clear hw9))
          all_goals
            go_wp2_with fail
            go_ret
            exact ⟨rfl, HBn.out⟩
        · skip
          have s3 : (s == 3) = false := by rw [beq_eq_false_iff_ne]; exact h3
          rw [if_neg h3] at hto
          go_wp2_with fail
          refine hto.mono ?_
          rintro e w8 ⟨v, rfl, hA⟩
          obtain ⟨ao, cap, rfl, hcell⟩ := hA.read
          obtain ⟨g, rfl, -⟩ := hcell 0 _ rfl
          have hAd := hA.keep (Below.refl _ _).drew
          have HC : Hid (∀ k X Y, LA w P k X (andK noK (Tld (.slice (some ⟨g, 0, none⟩) 1 cap) [tdC 2 9 nilV])) Y → Y.cell? ⟨g, 0, none⟩ = some (.int .u8 2) ∧ Y.cell? ⟨g, 1, none⟩ = some (.int .u8 9)) := fun k X Y h => ⟨by simpa [tdC] using h.tcell 0 _ rfl 0 (by omega), by simpa [tdC] using h.tcell 0 _ rfl 1 (by omega)⟩
          obtain ⟨d0, d1⟩ := HC.out _ _ _ hAd
          obtain ⟨c0, c1, -, c4, -⟩ := hAd.all
          rw [HR.out.1] at c0
          have hho := hAd.hold
          have hse := hAd.sent
          have hne := hAd.nexts
          have hnx := hAd.next
          rw [HR.out.2.2.2] at hnx
          have hS : w8.drew.cell? ⟨P.b, 0, none⟩ = some (.int .u8 0) ∧ w8.drew.cell? ⟨P.b, 1, none⟩ = some (.pointer (some ⟨P.c, 0, none⟩)) ∧ w8.drew.cell? ⟨P.b, 4, none⟩ = some (.iface (wT P.cy) (.pointer (some ⟨P.p, 0, none⟩))) ∧ w8.drew.cell? ⟨g, 0, none⟩ = some (.int .u8 2) ∧ w8.drew.cell? ⟨g, 1, none⟩ = some (.int .u8 9) := ⟨c0, c1, c4, d0, d1⟩
          have HL : Hid (X.took.next.s = 0 ∧ lft X.took.next.A.xs 7 = 0) := HX.out
          have hsum := HR.out.2.2.1
          rw [took_hs] at hse hne
          generalize (X.hs.sent.length : Int) = n1 at *
          generalize (X.hs.next.length : Int) = n2 at *
          have hwr : IntKind.i64.wrap (q : Int) = (q : Int) := IntWalk.i64_in _ (by omega)
          clear hto hA hcell hAd c0 c1 c4 d0 d1
          go_upto_region 19 with fail
          go_region_held (fun Y => Y.cell? ⟨P.b, 0, none⟩ = some (.int .u8 0) ∧ Y.cell? ⟨P.b, 1, none⟩ = some (.pointer (some ⟨P.c, 0, none⟩)) ∧ Y.cell? ⟨P.b, 4, none⟩ = some (.iface (wT P.cy) (.pointer (some ⟨P.p, 0, none⟩))) ∧ Y.cell? ⟨g, 0, none⟩ = some (.int .u8 2) ∧ Y.cell? ⟨g, 1, none⟩ = some (.int .u8 9)) (assumption)
            (first
            | (with_reducible change Calls Tryz.prog (fHold _) _ _ _; refine hho.mono ?_; rintro e w9 ⟨rfl, hw9⟩; obtain rfl := hw9.symm; clear hw9)
            | (go_at_call 29; refine hse.mono ?_; rintro e w9 ⟨rfl, hw9⟩; obtain rfl := hw9.symm; clear hw9)
            | (go_at_call 32; refine hne.mono ?_; rintro e w9 ⟨rfl, hw9⟩; obtain rfl := hw9.symm; clear hw9)
            | (go_at_call 21; refine hnx.mono ?_; rintro e wn ⟨⟨a', b', c', d', ao', n', cap', rfl⟩, hAn⟩; have hfd := field_st a' b' c' d' X.took.nk 3 false (.slice ao' n' cap') wn; have hSn : wn.cell? ⟨P.b, 0, none⟩ = some (.int .u8 0) ∧ wn.cell? ⟨P.b, 1, none⟩ = some (.pointer (some ⟨P.c, 0, none⟩)) ∧ wn.cell? ⟨P.b, 4, none⟩ = some (.iface (wT P.cy) (.pointer (some ⟨P.p, 0, none⟩))) ∧ wn.cell? ⟨g, 0, none⟩ = some (.int .u8 2) ∧ wn.cell? ⟨g, 1, none⟩ = some (.int .u8 9) := ⟨by rw [← HL.out.1]; exact hAn.all.1, hAn.all.2.1, hAn.all.2.2.2.1, HC.out _ _ _ hAn⟩; have hon := hAn.on 7; rw [HL.out.2] at hon; have HBn : Hid (Below w.heap.size w wn) := hAn.below; clear hAn)
            | (go_at_call 30; refine hon.mono ?_; rintro e w9 ⟨rfl, hw9⟩; obtain rfl := hw9.symm; clear hw9))
          all_goals
            go_wp2_with fail
            go_ret
            exact ⟨rfl, HBn.out⟩
      · have hlk := link_any 4 wr
        go_wp2_with fail
        refine hlk.mono ?_
        rintro e w3 ⟨rfl, hB⟩
        have hhe := LA.hear0 (k := 890) (HA3.out.keep hB) 127 127 1 4 true true false (by decide) (by decide)
        clear hlk hB HA3
        go_wp2_with fail
        refine hhe.mono ?_
        rintro e w4 ⟨rfl, q0, hA⟩
        have hto := hA.told
        clear hhe hA
        go_wp2_with fail
        refine hto.mono ?_
        rintro e w5 ⟨v, rfl, hA⟩
        have HA5 : Hid (∃ q0, LA w P 900 (fH c q true q0) noK w5) := KEY q0 w5 (LA.room (x := fH c q true q0) hA.no (fH_room c q hq5 true q0))
        clear hto hA KEY
        obtain ⟨q0, hA⟩ := HA5.out
        have hlk := link_any s w5
        clear HA5
        go_wp2_with fail
        refine hlk.mono ?_
        rintro e w6 ⟨rfl, hB⟩
        have hhe := LA.hear0 (k := 890) (hA.keep hB) 127 127 1 s true true false (by decide) (by decide)
        clear hlk hB hA
        go_wp2_with fail
        refine hhe.mono ?_
        rintro e w7 ⟨rfl, q2, hA⟩
        obtain ⟨r1, r2, r3, r4, r5, r6⟩ := fR_all c q hq5 true s hs4 q0 q2
        have hto := LA.told (x := fR c q true s q0 q2) hA
        rw [r2] at hto
        generalize fR c q true s q0 q2 = X at *
        have HR : Hid (X.took.s = 0 ∧ X.hs = X.hs ∧ (X.hs.sent.length : Int) + (X.hs.next.length : Int) = q ∧ X.took.ns = 3) := ⟨(took_s _).trans r1, rfl, r3, r4⟩
        have HX : Hid (X.took.next.s = 0 ∧ lft X.took.next.A.xs 7 = 0) := ⟨r6, r5⟩
        clear hhe hA r1 r2 r3 r4 r5 r6
        by_cases h3 : s = 3
        · skip
          have s3 : (s == 3) = true := by rw [h3]; rfl
          rw [if_pos h3] at hto
          go_wp2_with fail
          refine hto.mono ?_
          rintro e w8 ⟨v, rfl, hA⟩
          obtain ⟨ao, cap, rfl, hcell⟩ := hA.read
          obtain ⟨g, rfl, -⟩ := hcell 0 _ rfl
          have hAd := hA.keep (Below.refl _ _).drew
          have HC : Hid (∀ k X Y, LA w P k X (andK noK (Tld (.slice (some ⟨g, 0, none⟩) 1 cap) [tdC 2 8 nilV])) Y → Y.cell? ⟨g, 0, none⟩ = some (.int .u8 2) ∧ Y.cell? ⟨g, 1, none⟩ = some (.int .u8 8)) := fun k X Y h => ⟨by simpa [tdC] using h.tcell 0 _ rfl 0 (by omega), by simpa [tdC] using h.tcell 0 _ rfl 1 (by omega)⟩
          obtain ⟨d0, d1⟩ := HC.out _ _ _ hAd
          obtain ⟨c0, c1, -, c4, -⟩ := hAd.all
          rw [HR.out.1] at c0
          have hho := hAd.hold
          have hse := hAd.sent
          have hne := hAd.nexts
          have hnx := hAd.next
          rw [HR.out.2.2.2] at hnx
          have hS : w8.drew.cell? ⟨P.b, 0, none⟩ = some (.int .u8 0) ∧ w8.drew.cell? ⟨P.b, 1, none⟩ = some (.pointer (some ⟨P.c, 0, none⟩)) ∧ w8.drew.cell? ⟨P.b, 4, none⟩ = some (.iface (wT P.cy) (.pointer (some ⟨P.p, 0, none⟩))) ∧ w8.drew.cell? ⟨g, 0, none⟩ = some (.int .u8 2) ∧ w8.drew.cell? ⟨g, 1, none⟩ = some (.int .u8 8) := ⟨c0, c1, c4, d0, d1⟩
          have HL : Hid (X.took.next.s = 0 ∧ lft X.took.next.A.xs 7 = 0) := HX.out
          have hsum := HR.out.2.2.1
          rw [took_hs] at hse hne
          generalize (X.hs.sent.length : Int) = n1 at *
          generalize (X.hs.next.length : Int) = n2 at *
          have hwr : IntKind.i64.wrap (q : Int) = (q : Int) := IntWalk.i64_in _ (by omega)
          clear hto hA hcell hAd c0 c1 c4 d0 d1
          go_upto_region 19 with fail
          go_region_held (fun Y => Y.cell? ⟨P.b, 0, none⟩ = some (.int .u8 0) ∧ Y.cell? ⟨P.b, 1, none⟩ = some (.pointer (some ⟨P.c, 0, none⟩)) ∧ Y.cell? ⟨P.b, 4, none⟩ = some (.iface (wT P.cy) (.pointer (some ⟨P.p, 0, none⟩))) ∧ Y.cell? ⟨g, 0, none⟩ = some (.int .u8 2) ∧ Y.cell? ⟨g, 1, none⟩ = some (.int .u8 8)) (assumption)
            (first
            | (with_reducible change Calls Tryz.prog (fHold _) _ _ _; refine hho.mono ?_; rintro e w9 ⟨rfl, hw9⟩; obtain rfl := hw9.symm; clear hw9)
            | (go_at_call 29; refine hse.mono ?_; rintro e w9 ⟨rfl, hw9⟩; obtain rfl := hw9.symm; clear hw9)
            | (go_at_call 32; refine hne.mono ?_; rintro e w9 ⟨rfl, hw9⟩; obtain rfl := hw9.symm; clear hw9)
            | (go_at_call 21; refine hnx.mono ?_; rintro e wn ⟨⟨a', b', c', d', ao', n', cap', rfl⟩, hAn⟩; have hfd := field_st a' b' c' d' X.took.nk 3 false (.slice ao' n' cap') wn; have hSn : wn.cell? ⟨P.b, 0, none⟩ = some (.int .u8 0) ∧ wn.cell? ⟨P.b, 1, none⟩ = some (.pointer (some ⟨P.c, 0, none⟩)) ∧ wn.cell? ⟨P.b, 4, none⟩ = some (.iface (wT P.cy) (.pointer (some ⟨P.p, 0, none⟩))) ∧ wn.cell? ⟨g, 0, none⟩ = some (.int .u8 2) ∧ wn.cell? ⟨g, 1, none⟩ = some (.int .u8 8) := ⟨by rw [← HL.out.1]; exact hAn.all.1, hAn.all.2.1, hAn.all.2.2.2.1, HC.out _ _ _ hAn⟩; have hon := hAn.on 7; rw [HL.out.2] at hon; have HBn : Hid (Below w.heap.size w wn) := hAn.below; clear hAn)
            | (go_at_call 30; refine hon.mono ?_; rintro e w9 ⟨rfl, hw9⟩; obtain rfl := hw9.symm; clear hw9))
          all_goals
            go_wp2_with fail
            go_ret
            exact ⟨rfl, HBn.out⟩
        · skip
          have s3 : (s == 3) = false := by rw [beq_eq_false_iff_ne]; exact h3
          rw [if_neg h3] at hto
          go_wp2_with fail
          refine hto.mono ?_
          rintro e w8 ⟨v, rfl, hA⟩
          obtain ⟨ao, cap, rfl, hcell⟩ := hA.read
          obtain ⟨g, rfl, -⟩ := hcell 0 _ rfl
          have hAd := hA.keep (Below.refl _ _).drew
          have HC : Hid (∀ k X Y, LA w P k X (andK noK (Tld (.slice (some ⟨g, 0, none⟩) 1 cap) [tdC 2 9 nilV])) Y → Y.cell? ⟨g, 0, none⟩ = some (.int .u8 2) ∧ Y.cell? ⟨g, 1, none⟩ = some (.int .u8 9)) := fun k X Y h => ⟨by simpa [tdC] using h.tcell 0 _ rfl 0 (by omega), by simpa [tdC] using h.tcell 0 _ rfl 1 (by omega)⟩
          obtain ⟨d0, d1⟩ := HC.out _ _ _ hAd
          obtain ⟨c0, c1, -, c4, -⟩ := hAd.all
          rw [HR.out.1] at c0
          have hho := hAd.hold
          have hse := hAd.sent
          have hne := hAd.nexts
          have hnx := hAd.next
          rw [HR.out.2.2.2] at hnx
          have hS : w8.drew.cell? ⟨P.b, 0, none⟩ = some (.int .u8 0) ∧ w8.drew.cell? ⟨P.b, 1, none⟩ = some (.pointer (some ⟨P.c, 0, none⟩)) ∧ w8.drew.cell? ⟨P.b, 4, none⟩ = some (.iface (wT P.cy) (.pointer (some ⟨P.p, 0, none⟩))) ∧ w8.drew.cell? ⟨g, 0, none⟩ = some (.int .u8 2) ∧ w8.drew.cell? ⟨g, 1, none⟩ = some (.int .u8 9) := ⟨c0, c1, c4, d0, d1⟩
          have HL : Hid (X.took.next.s = 0 ∧ lft X.took.next.A.xs 7 = 0) := HX.out
          have hsum := HR.out.2.2.1
          rw [took_hs] at hse hne
          generalize (X.hs.sent.length : Int) = n1 at *
          generalize (X.hs.next.length : Int) = n2 at *
          have hwr : IntKind.i64.wrap (q : Int) = (q : Int) := IntWalk.i64_in _ (by omega)
          clear hto hA hcell hAd c0 c1 c4 d0 d1
          go_upto_region 19 with fail
          go_region_held (fun Y => Y.cell? ⟨P.b, 0, none⟩ = some (.int .u8 0) ∧ Y.cell? ⟨P.b, 1, none⟩ = some (.pointer (some ⟨P.c, 0, none⟩)) ∧ Y.cell? ⟨P.b, 4, none⟩ = some (.iface (wT P.cy) (.pointer (some ⟨P.p, 0, none⟩))) ∧ Y.cell? ⟨g, 0, none⟩ = some (.int .u8 2) ∧ Y.cell? ⟨g, 1, none⟩ = some (.int .u8 9)) (assumption)
            (first
            | (with_reducible change Calls Tryz.prog (fHold _) _ _ _; refine hho.mono ?_; rintro e w9 ⟨rfl, hw9⟩; obtain rfl := hw9.symm; clear hw9)
            | (go_at_call 29; refine hse.mono ?_; rintro e w9 ⟨rfl, hw9⟩; obtain rfl := hw9.symm; clear hw9)
            | (go_at_call 32; refine hne.mono ?_; rintro e w9 ⟨rfl, hw9⟩; obtain rfl := hw9.symm; clear hw9)
            | (go_at_call 21; refine hnx.mono ?_; rintro e wn ⟨⟨a', b', c', d', ao', n', cap', rfl⟩, hAn⟩; have hfd := field_st a' b' c' d' X.took.nk 3 false (.slice ao' n' cap') wn; have hSn : wn.cell? ⟨P.b, 0, none⟩ = some (.int .u8 0) ∧ wn.cell? ⟨P.b, 1, none⟩ = some (.pointer (some ⟨P.c, 0, none⟩)) ∧ wn.cell? ⟨P.b, 4, none⟩ = some (.iface (wT P.cy) (.pointer (some ⟨P.p, 0, none⟩))) ∧ wn.cell? ⟨g, 0, none⟩ = some (.int .u8 2) ∧ wn.cell? ⟨g, 1, none⟩ = some (.int .u8 9) := ⟨by rw [← HL.out.1]; exact hAn.all.1, hAn.all.2.1, hAn.all.2.2.2.1, HC.out _ _ _ hAn⟩; have hon := hAn.on 7; rw [HL.out.2] at hon; have HBn : Hid (Below w.heap.size w wn) := hAn.below; clear hAn)
            | (go_at_call 30; refine hon.mono ?_; rintro e w9 ⟨rfl, hw9⟩; obtain rfl := hw9.symm; clear hw9))
          all_goals
            go_wp2_with fail
            go_ret
            exact ⟨rfl, HBn.out⟩
end Go.Proofs.YtldjglmelbkngaaGreat.Tape
