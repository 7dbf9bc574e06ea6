/- The walk of the law AlignWhole. -/
import Derived.Test.YtmcjjminlbempaaWhole1
import Derived.Test.YtmcjjminlbempaaActs14
import Derived.Test.YtmcjjminlbempaaAlign7
namespace Go.Proofs.Ytmcjjminlbempaa.Tape
open Go.ChangeShapes Go.WideShapes Go.ChangeAt Go.RowKit
set_option linter.unusedVariables false

theorem alw_any (c : Nat) (w : World) (hc : ClockAt w c (List.replicate 8 0)) :
    Calls Try.prog 10 #[.agg #[.bool false, .int .i64 8, .int .i64 300, .int .i64 16, .int .i64 600, .int .i64 6, .int .i64 99, .int .i64 99, .int .i64 99, .int .i64 20, .int .i64 5, .int .i64 9, .int .i64 9], .pointer (some ⟨c, 0, none⟩)] w
      fun e w' => ∃ b, e = .returned (.pointer (some ⟨b, 0, none⟩)) ∧ w.heap.size ≤ b ∧ AlignAt w' b c (al0 wT (List.replicate 8 0)) ∧ Below w.heap.size w w' :=
  alnew_any c false 8 300 16 600 wT (List.replicate 8 0) w hc wT_ok

set_option maxRecDepth 100000 in
set_option maxHeartbeats 4000000 in
theorem alwhole_walk (ao : Option Addr) (n cap : Nat) (h : Bool) (w : World) (ha : Acts w ao n) :
    Calls Try.prog 3 #[.slice ao n cap, .bool h] w fun e w' => e = .returned (.bool true) ∧ Below w.heap.size w w' := by
  have haw := awake14_any w
  by_cases hlen : 150 < n
  · have hg : decide ((n : Int) > 150) = true := by simp; omega
    clear ha
    go_enter Try.func3, Try.ntmps3
    go_wp2_with (go_at_call 8; refine haw.mono ?_; rintro e w1 ⟨rfl, hB1⟩)
    refine (awake14_any w1).mono ?_
    rintro e w2 ⟨rfl, hB2⟩
    have HB := hB1.trans (hB2.mono hB1.size)
    clear hB1 hB2 haw
    go_wp2
    go_ret
    exact ⟨rfl, HB⟩
  · have HA : Hid (Acts w ao n) := ha
    clear ha
    have HN : Hid (WH (((al0 wT (List.replicate 8 0)).hurry h).begin_) (-1)) := wh_new h
    go_enter Try.func3, Try.ntmps3
    go_wp2_with (go_at_call 8; refine haw.mono ?_; rintro e w1 ⟨rfl, hB1⟩)
    refine (usual_any false _).mono ?_
    rintro e w2 ⟨rfl, hU⟩
    have hB2 := hB1.trans (hU.mono hB1.size)
    clear haw hU hB1
    go_wp2_with fail
    obtain ⟨W, hW⟩ : ∃ W, W = ((w2.alloc (.cells #[.bool false, .int .i64 8, .int .i64 300, .int .i64 16, .int .i64 600, .int .i64 6, .int .i64 99, .int .i64 99, .int .i64 99, .int .i64 20, .int .i64 5, .int .i64 9, .int .i64 9] 26)).alloc (.cells #[.int .i64 0, .int .i64 0, .int .i64 0, .int .i64 0, .int .i64 0, .int .i64 0, .int .i64 0, .int .i64 0] 30)) := ⟨_, rfl⟩
    have hBW : Below w.heap.size w W := by rw [hW]; exact (hB2.alloc hB2.size _).alloc (by have := hB2.size; simp; omega) _
    have hcW : ClockAt W (w2.heap.size + 1) (List.replicate 8 0) := by
      rw [hW]
      have := clock_new (w2.alloc (.cells #[.bool false, .int .i64 8, .int .i64 300, .int .i64 16, .int .i64 600, .int .i64 6, .int .i64 99, .int .i64 99, .int .i64 99, .int .i64 20, .int .i64 5, .int .i64 9, .int .i64 9] 26))
      rwa [show (w2.alloc (.cells #[.bool false, .int .i64 8, .int .i64 300, .int .i64 16, .int .i64 600, .int .i64 6, .int .i64 99, .int .i64 99, .int .i64 99, .int .i64 20, .int .i64 5, .int .i64 9, .int .i64 9] 26)).heap.size = w2.heap.size + 1 by simp] at this
    rw [← hW]
    have hcb : w.heap.size ≤ w2.heap.size + 1 := by have := hB2.size; omega
    generalize w2.heap.size + 1 = c at *
    clear hW hB2
    refine (alw_any c W hcW).mono ?_
    rintro e w3 ⟨b, rfl, hb, hA3, hB3⟩
    have HC : Hid (w.heap.size ≤ b ∧ w.heap.size ≤ c) := ⟨Nat.le_trans hBW.size hb, hcb⟩
    have HB3 : Hid (Below w.heap.size w w3) := hBW.trans (hB3.mono hBW.size)
    clear hb hB3 hBW hcW hcb
    have hhu := hurry_al b c _ h w3 hA3
    clear hA3
    go_wp2_with fail
    refine hhu.mono ?_
    rintro e w4 ⟨rfl, hA4, hF4⟩
    have HB4 : Hid (Below w.heap.size w w4) := HB3.out.trans (hF4.below HC.out.1 HC.out.2 HB3.out.size)
    have hbe := begin_al b c _ w4 hA4
    clear hhu hF4 hA4
    go_wp2_with fail
    refine hbe.mono ?_
    rintro e w5 ⟨rfl, hA5, hF5⟩
    have hB5 : Below w.heap.size w w5 := HB4.out.trans (hF5.below HC.out.1 HC.out.2 HB4.out.size)
    generalize ((al0 wT (List.replicate 8 0)).hurry h).begin_ = A0 at *
    clear hbe hF5
    go_wp2_with fail
    go_loopw [8, 9] (fun s i wr => ∃ (k : Nat) (A : Al) (z : Int), k ≤ n ∧ i = .int .i64 k ∧ s = .int .i64 z ∧ AlignAt wr b c A ∧ Below w.heap.size w wr ∧ Hid (WH A z) ∧ Hid (-1 ≤ z ∧ z ≤ k)) (fun _ i _ => n - (intOf i).toNat)
    case atStart => exact ⟨0, A0, -1, by omega, rfl, rfl, hA5, hB5, HN, ⟨by omega, by omega⟩⟩
    case round =>
      clear hA5 hB5 HN
      obtain ⟨k, A, z, hk, rfl, rfl, hA, hB, HW, HZ⟩ := hrel
      by_cases hlt : k < n
      · obtain ⟨g, off, rfl, K, X, c0, c1, ⟨K0, K1⟩, X0, X1⟩ := (HA.out.below hB) k hlt
        have hKm : K.tmod 10 = K % 10 := Int.tmod_eq_emod_of_nonneg K0
        have hXm : X.tmod 3 = X % 3 := Int.tmod_eq_emod_of_nonneg X0
        obtain ⟨q, hq⟩ : ∃ q, q = K % 10 := ⟨_, rfl⟩
        obtain ⟨s, hs⟩ : ∃ s, s = X % 3 := ⟨_, rfl⟩
        have hsr : s = 0 ∨ s = 1 ∨ s = 2 := by omega
        have hqr : 0 ≤ q ∧ q < 10 := by omega
        rw [← hq] at hKm
        rw [← hs] at hXm
        have hB1 := hB.alloc hB.size (.cells #[.int .u8 K, .int .u8 X] 35)
        have hA1 := hA.keep ((Below.refl wr.heap.size wr).alloc (Nat.le_refl _) (.cells #[.int .u8 K, .int .u8 X] 35))
        have hst : 0 ≤ A.st ∧ A.st ≤ 3 := by rcases HW.out.st with ⟨e, -⟩ | ⟨e, -⟩ | ⟨e, -⟩ <;> omega
        have HB1 : Hid (Below w.heap.size w (wr.alloc (.cells #[.int .u8 K, .int .u8 X] 35))) := hB1
        have HA1 : Hid (AlignAt (wr.alloc (.cells #[.int .u8 K, .int .u8 X] 35)) b c A) := hA1
        have hblt := hA.lt.1
        have d0 := hA.all.1.1
        have hon : (off + k * 2 + 1) = off + k * 2 + 1 := rfl
        clear hB1 hA1 hA hB hq hs hon
        by_cases hq2 : q < 2
        · have hhe := heard_al b c A s hst _ HA1.out
          rw [show A.why s = 0 from if_pos (.inr (.inr (by omega)))] at hhe
          have HH : Hid (((A.heard s).st ≠ 3 → WH (A.heard s) (-1)) ∧ ((A.heard s).st = 3 → A.st ≠ 3 → WH (A.heard s) 0) ∧ ((A.heard s).st = 3 → A.st = 3 → WH (A.heard s) z)) := wh_heard HW.out s hsr
          generalize A.heard s = A2 at *
          clear hst
          by_cases h3 : A2.st = 3
          · by_cases h1 : A.st = 3
            · rw [h1] at d0
              have HX : Hid (WH A2 z) := HH.out.2.2 h3 h1
              have HY : Hid (A2.st = 3) := h3
              clear h3 h1
              go_wp2_with (go_at_call 13; refine hhe.mono ?_; rintro e w6 ⟨rfl, hA6, hF6⟩; have hB6 := HB1.out.trans (hF6.below HC.out.1 HC.out.2 HB1.out.size); have e0 := hA6.all.1.1; rw [HY.out] at e0; clear hhe hF6)
              go_roundw
              case rel => exact ⟨k + 1, A2, z, by omega, by go_num, rfl, hA6, hB6, HX, ⟨HZ.out.1, by have := HZ.out.2; omega⟩⟩
              case measure => simp [intOf]; omega
            · have HX : Hid (WH A2 0) := HH.out.2.1 h3 h1
              have HY : Hid (A2.st = 3) := h3
              have n1 : (A.st != 3) = true := by rw [bne_iff_ne]; exact h1
              clear h3 h1
              go_wp2_with (go_at_call 13; refine hhe.mono ?_; rintro e w6 ⟨rfl, hA6, hF6⟩; have hB6 := HB1.out.trans (hF6.below HC.out.1 HC.out.2 HB1.out.size); have e0 := hA6.all.1.1; rw [HY.out] at e0; clear hhe hF6)
              go_roundw
              case rel => exact ⟨k + 1, A2, 0, by omega, by go_num, rfl, hA6, hB6, HX, ⟨by omega, by omega⟩⟩
              case measure => simp [intOf]; omega
          · have HX : Hid (WH A2 (-1)) := HH.out.1 h3
            have n1 : (A2.st != 3) = true := by rw [bne_iff_ne]; exact h3
            generalize hst2 : A2.st = st2 at *
            have HS2 : Hid (A2.st = st2) := hst2
            clear h3 hst2
            go_wp2_with (go_at_call 13; refine hhe.mono ?_; rintro e w6 ⟨rfl, hA6, hF6⟩; have hB6 := HB1.out.trans (hF6.below HC.out.1 HC.out.2 HB1.out.size); have e0 := hA6.all.1.1; rw [HS2.out] at e0; clear hhe hF6)
            go_roundw
            case rel => exact ⟨k + 1, A2, -1, by omega, by go_num, rfl, hA6, hB6, HX, ⟨by omega, by omega⟩⟩
            case measure => simp [intOf]; omega
        · by_cases hq3 : q = 2
          · subst hq3
            have htr := tries_al b c A _ HA1.out
            have hun := unit_al b c A true _ HA1.out (by have := HW.out.n; have h4 : A.most ≤ 4 := (by unfold Al.most; split <;> omega); omega) (by have := HW.out.tr; omega)
            have HU : Hid (A.unitWhy true = 0 → ((A.unit true).tries ≠ A.tries → WH (A.unit true) 0) ∧ ((A.unit true).tries = A.tries → WH (A.unit true) z)) := fun e => wh_unit HW.out e
            generalize A.unit true = A2 at *
            generalize A.unitWhy true = V at *
            generalize hT : A.tries = T at *
            clear hst hT
            by_cases hV : V = 0
            · subst hV
              have HU2 : Hid ((A2.tries ≠ T → WH A2 0) ∧ (A2.tries = T → WH A2 z)) := HU.out rfl
              have htr2 := fun W h => tries_al b c A2 W h
              by_cases hT2 : A2.tries = T
              · have HX : Hid (WH A2 z) := HU2.out.2 hT2
                rw [hT2] at htr2
                clear hT2
                go_wp2_with (first
                  | (go_at_call 15; refine hun.mono ?_; rintro e w6 ⟨rfl, hA6, hF6⟩; have hB6 := HB1.out.trans (hF6.below HC.out.1 HC.out.2 HB1.out.size); have ht6 := htr2 w6 hA6; clear hun hF6 htr htr2)
                  | (go_at_call 14; refine htr.mono ?_; rintro e w7 ⟨rfl, hw7⟩; obtain rfl := hw7.symm; clear hw7)
                  | (go_at_call 14; refine ht6.mono ?_; rintro e w7 ⟨rfl, hw7⟩; obtain rfl := hw7.symm; clear hw7))
                go_roundw
                case rel => exact ⟨k + 1, A2, z, by omega, by go_num, rfl, hA6, hB6, HX, ⟨HZ.out.1, by have := HZ.out.2; omega⟩⟩
                case measure => simp [intOf]; omega
              · have HX : Hid (WH A2 0) := HU2.out.1 hT2
                generalize A2.tries = T2 at *
                have n1 : (T2 != T) = true := by rw [bne_iff_ne]; exact hT2
                clear hT2
                go_wp2_with (first
                  | (go_at_call 15; refine hun.mono ?_; rintro e w6 ⟨rfl, hA6, hF6⟩; have hB6 := HB1.out.trans (hF6.below HC.out.1 HC.out.2 HB1.out.size); have ht6 := htr2 w6 hA6; clear hun hF6 htr htr2)
                  | (go_at_call 14; refine htr.mono ?_; rintro e w7 ⟨rfl, hw7⟩; obtain rfl := hw7.symm; clear hw7)
                  | (go_at_call 14; refine ht6.mono ?_; rintro e w7 ⟨rfl, hw7⟩; obtain rfl := hw7.symm; clear hw7))
                go_roundw
                case rel => exact ⟨k + 1, A2, 0, by omega, by go_num, rfl, hA6, hB6, HX, ⟨by omega, by omega⟩⟩
                case measure => simp [intOf]; omega
            · have n1 : (V != 0) = true := by rw [bne_iff_ne]; exact hV
              clear hV
              go_wp2_with (first
                | (go_at_call 15; refine hun.mono ?_; rintro e w6 ⟨rfl, hA6, hF6⟩; have HB6 : Hid (Below w.heap.size w w6) := HB1.out.trans (hF6.below HC.out.1 HC.out.2 HB1.out.size); clear hun hF6 htr)
                | (go_at_call 14; refine htr.mono ?_; rintro e w7 ⟨rfl, hw7⟩; obtain rfl := hw7.symm; clear hw7))
              go_ret
              exact ⟨rfl, HB6.out⟩
          · have n2 : (q == 2) = false := by rw [beq_eq_false_iff_ne]; exact hq3
            have htk := tick_al b c A _ HA1.out
            obtain ⟨o2, ho2⟩ : ∃ o2, outs 0 A.xs = o2 := ⟨_, rfl⟩
            rw [ho2] at htk
            have HT : Hid (_ ∨ _) := wh_tick HW.out
            rw [ho2] at HT
            clear ho2 hst
            generalize A.tick = A2 at *
            obtain ⟨z0, z1⟩ := HZ.out
            rcases HT.out with ⟨rfl, hW2⟩ | ⟨kk, rfl, hp, hw7⟩ | ⟨kk, rfl, hp, hw0, hz0, hkk⟩
            · clear HT
              by_cases hz : z ≥ 0
              · rw [if_pos hz] at hW2
                have HX : Hid (WH A2 (z + 1)) := hW2
                clear hW2
                go_wp2_with (go_at_call 16; refine htk.mono ?_; rintro e w6 ⟨lo, lc, rfl, hr6, hlo, hA6, hF6⟩; have HB6 : Hid (Below w.heap.size w w6) := HB1.out.trans (hF6.below HC.out.1 HC.out.2 HB1.out.size); have HA6 : Hid (AlignAt w6 b c A2) := hA6; clear htk hr6 hlo hA6 hF6)
                go_loopw [15] (fun j wr => j = .int .i64 0 ∧ wr = w6) (fun _ _ => 0)
                case atStart => exact ⟨rfl, rfl⟩
                case round =>
                  obtain ⟨rfl, rfl⟩ := hrel
                  go_wp2
                  go_roundw
                  case rel => exact ⟨k + 1, A2, z + 1, by omega, by go_num, rfl, HA6.out, HB6.out, HX, ⟨by omega, by omega⟩⟩
                  case measure => simp [intOf]; omega
              · rw [if_neg hz] at hW2
                have HX : Hid (WH A2 z) := hW2
                clear hW2
                go_wp2_with (go_at_call 16; refine htk.mono ?_; rintro e w6 ⟨lo, lc, rfl, hr6, hlo, hA6, hF6⟩; have HB6 : Hid (Below w.heap.size w w6) := HB1.out.trans (hF6.below HC.out.1 HC.out.2 HB1.out.size); have HA6 : Hid (AlignAt w6 b c A2) := hA6; clear htk hr6 hlo hA6 hF6)
                go_loopw [15] (fun j wr => j = .int .i64 0 ∧ wr = w6) (fun _ _ => 0)
                case atStart => exact ⟨rfl, rfl⟩
                case round =>
                  obtain ⟨rfl, rfl⟩ := hrel
                  go_wp2
                  go_roundw
                  case rel => exact ⟨k + 1, A2, z, by omega, by go_num, rfl, HA6.out, HB6.out, HX, ⟨by omega, by omega⟩⟩
                  case measure => simp [intOf]; omega
            · clear HT
              obtain ⟨zz, hzz⟩ : ∃ zz : Int, zz = z := ⟨_, rfl⟩
              have hout := fun W h => out_al b c A2 kk W h
              rw [hp, hw7] at hout
              clear hp hw7 hzz
              by_cases hz : z ≥ 0 <;>
              · go_wp2_with (go_at_call 16; refine htk.mono ?_; rintro e w6 ⟨lo, lc, rfl, hr6, hlo, hA6, hF6⟩; have HB6 : Hid (Below w.heap.size w w6) := HB1.out.trans (hF6.below HC.out.1 HC.out.2 HB1.out.size); have ho6 := hout w6 hA6; obtain ⟨lg, lf, rfl, hcl⟩ := hr6 0 (.int .i64 kk) rfl; rw [Nat.add_zero] at hcl; clear htk hr6 hlo hA6 hF6 hout)
                go_loopw [15] (fun j wr => j = .int .i64 0 ∧ wr = w6) (fun _ _ => 0)
                case atStart => exact ⟨rfl, rfl⟩
                case round =>
                  obtain ⟨rfl, rfl⟩ := hrel
                  go_wp2_with (go_at_call 17; refine ho6.mono ?_; rintro e w7 ⟨rfl, hA7, hF7⟩; have HB7 : Hid (Below w.heap.size w w7) := HB6.out.trans (hF7.below HC.out.1 HC.out.2 HB6.out.size); clear ho6 hA7 hF7)
                  go_ret
                  exact ⟨rfl, HB7.out⟩
            · clear HT
              have hout := fun W h => out_al b c A2 kk W h
              rw [hp, hw0] at hout
              have hlts := HA1.out.lt
              have HL : Hid (b < (wr.alloc (.cells #[.int .u8 K, .int .u8 X] 35)).heap.size ∧ c < (wr.alloc (.cells #[.int .u8 K, .int .u8 X] 35)).heap.size) := hlts
              clear hp hw0 hlts
              have hg6 : z + 1 ≥ 6 := by omega
              by_cases h20 : z + 1 ≥ 20
              · go_wp2_with (go_at_call 16; refine htk.mono ?_; rintro e w6 ⟨lo, lc, rfl, hr6, hlo, hA6, hF6⟩; have HB6 : Hid (Below w.heap.size w w6) := HB1.out.trans (hF6.below HC.out.1 HC.out.2 HB1.out.size); have ho6 := hout w6 hA6; obtain ⟨lg, lf, rfl, hcl⟩ := hr6 0 (.int .i64 kk) rfl; rw [Nat.add_zero] at hcl; clear htk hr6 hlo hA6 hF6 hout)
                go_loopw [15] (fun j wr => j = .int .i64 0 ∧ wr = w6) (fun _ _ => 0)
                case atStart => exact ⟨rfl, rfl⟩
                case round =>
                  obtain ⟨rfl, rfl⟩ := hrel
                  go_wp2_with (go_at_call 17; refine ho6.mono ?_; rintro e w7 ⟨rfl, hA7, hF7⟩; have HB7 : Hid (Below w.heap.size w w7) := HB6.out.trans (hF7.below HC.out.1 HC.out.2 HB6.out.size); clear ho6 hA7 hF7)
                  go_ret
                  exact ⟨rfl, HB7.out⟩
              · obtain rfl : kk = 0 := by omega
                go_wp2_with (go_at_call 16; refine htk.mono ?_; rintro e w6 ⟨lo, lc, rfl, hr6, hlo, hA6, hF6⟩; have HB6 : Hid (Below w.heap.size w w6) := HB1.out.trans (hF6.below HC.out.1 HC.out.2 HB1.out.size); have ho6 := hout w6 hA6; obtain ⟨lg, lf, rfl, hcl⟩ := hr6 0 (.int .i64 (0 : Nat)) rfl; rw [Nat.add_zero] at hcl; have HO : Hid (lg < w6.heap.size ∧ lg ≠ b ∧ lg ≠ c) := (by obtain ⟨e1, e2⟩ := hlo _ rfl; have e3 := HL.out; exact ⟨e2, by have := e3.1; show lg ≠ b; intro e; rw [← e] at this; exact absurd e1 (Nat.not_le_of_lt this), by have := e3.2; show lg ≠ c; intro e; rw [← e] at this; exact absurd e1 (Nat.not_le_of_lt this)⟩); clear htk hr6 hlo hA6 hF6 hout)
                go_loopw [15] (fun j wr => j = .int .i64 0 ∧ wr = w6) (fun _ _ => 0)
                case atStart => exact ⟨rfl, rfl⟩
                case round =>
                  obtain ⟨rfl, rfl⟩ := hrel
                  go_wp2_with (go_at_call 17; refine ho6.mono ?_; rintro e w7 ⟨rfl, hA7, hF7⟩; have HB7 : Hid (Below w.heap.size w w7) := HB6.out.trans (hF7.below HC.out.1 HC.out.2 HB6.out.size); have hcl7 := (World.cell?_of_block (a := ⟨lg, lf, none⟩) (hF7.block lg HO.out.1 HO.out.2.1 HO.out.2.2)).trans hcl; clear ho6 hA7 hF7)
                  go_ret
                  exact ⟨rfl, HB7.out⟩
      · obtain rfl : k = n := by omega
        have HB : Hid (Below w.heap.size w wr) := hB
        clear hB hA
        go_wp2
        go_ret
        exact ⟨rfl, HB.out⟩
end Go.Proofs.Ytmcjjminlbempaa.Tape
