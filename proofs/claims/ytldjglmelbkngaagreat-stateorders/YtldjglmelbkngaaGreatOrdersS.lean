/- The walk of the law StateOrders. -/
import Derived.Test.YtldjglmelbkngaaGreatInv4
import Derived.Test.YtldjglmelbkngaaGreatActs17
import Derived.Deep.Cut
import Derived.Deep.CutRange
import Derived.Deep.CutBlock
import Derived.Deep.QuietTactic
import Derived.BigQuiet
namespace Go.Proofs.YtldjglmelbkngaaGreat.Tape
open Go.ChangeShapes Go.WideShapes Go.ChangeAt Go.RowKit
set_option linter.unusedVariables false

attribute [local go_sem ↓] ldU_def stU_def ldAc_def
attribute [local go_sem] m_hold c_hold

set_option maxRecDepth 100000 in
set_option maxHeartbeats 4000000 in
theorem orders_walk (c : Bool) (a : Option Addr) (len cap : Nat) (kk : Int) (pa : Option Addr) (pn pcap : Nat) (ps : List Int) (w : World) (h : len ≤ maxLen ∧ Acts w a len) (kk0 : 0 ≤ kk ∧ kk ≤ 255) (hpl : pn = ps.length) (hpr : Reads w pa (ps.map (.int .u8))) (hpb : ∀ y ∈ ps, 0 ≤ y ∧ y ≤ 255) (hpm : pn ≤ maxLen) :
    Calls Tryz.prog 8 #[.bool c, .slice a len cap, .int .u8 kk, .slice pa pn pcap] w fun e w' => e = .returned (.bool true) ∧ Below w.heap.size w w' := by
  obtain ⟨hlm, hac⟩ := h
  unfold maxLen at hlm hpm
  have haw := awake17_any w
  by_cases hlong : 60 < len ∨ 400 < pn
  · have hd : decide ((60 : Int) < (len : Int)) = true ∨ decide ((60 : Int) < (len : Int)) = false ∧ decide ((400 : Int) < (pn : Int)) = true := by
      rw [decide_eq_true_iff, decide_eq_false_iff_not, decide_eq_true_iff]
      omega
    clear hac hpl hpr hpb
    rcases hd with hd | ⟨hd, hd2⟩
    all_goals
      go_enter Tryz.func8, Tryz.ntmps8
      go_wp2_with fail
      refine haw.mono ?_
      rintro e w1 ⟨rfl, hB1⟩
      have haw2 := awake17_any w1
      clear haw
      go_wp2_with fail
      refine haw2.mono ?_
      rintro e w2 ⟨rfl, hB2⟩
      go_wp2
      go_ret
      exact ⟨rfl, hB1.trans (below_le hB2 hB1.size)⟩
  have hl60 : len ≤ 60 ∧ pn ≤ 400 := by omega
  have hd : decide ((60 : Int) < (len : Int)) = false := by rw [decide_eq_false_iff_not]; omega
  have hd2 : decide ((400 : Int) < (pn : Int)) = false := by rw [decide_eq_false_iff_not]; omega
  have HAC : Hid (Acts w a len) := hac
  have HPR : Hid (pn = ps.length ∧ Reads w pa (ps.map (.int .u8)) ∧ ∀ y ∈ ps, 0 ≤ y ∧ y ≤ 255) := ⟨hpl, hpr, hpb⟩
  clear hac hlong hpl hpr hpb
  go_enter Tryz.func8, Tryz.ntmps8
  go_wp2_with fail
  refine haw.mono ?_
  rintro e w1 ⟨rfl, hB1⟩
  have hqu := quick_any c w1
  have HB1 : Hid (Below w.heap.size w w1) := hB1
  clear haw hB1
  go_wp2_with fail
  refine hqu.mono ?_
  rintro e w2 ⟨rfl, hB2⟩
  have hne := quicknew_any c w2
  have HB2 : Hid (Below w.heap.size w w2) := HB1.out.trans (below_le hB2 HB1.out.size)
  clear hqu hB2 HB1
  go_wp2_with fail
  refine hne.mono ?_
  rintro e w3 ⟨P, rfl, hcy, hPB, hA⟩
  have HK : Hid (Keep w P 0 w3) := ⟨_, new_iv c, by rw [(new_told c).1]; simp, by rw [(new_told c).2.1]; decide, (hA.base HB2.out).mono (by omega)⟩
  clear hne hcy hPB HB2 hA hd hd2
  go_wp2_with fail
  go_loopw [10] (fun i wr => ∃ j : Nat, j ≤ len ∧ i = .int .i64 j ∧ Hid (Keep w P j wr)) (fun i _ => len - (intOf i).toNat)
  case atStart => exact ⟨0, by omega, rfl, HK⟩
  case round =>
    clear HK
    obtain ⟨j, hj, rfl, HK⟩ := hrel
    by_cases hl : j < len
    · have hd : decide ((j : Int) < (len : Int)) = true := by rw [decide_eq_true_iff]; omega
      obtain ⟨x, hI, ht, hf, hA⟩ := HK.out
      obtain ⟨g, off, rfl, k, y, b, f, p, q, kd, st, wd, ao, n, cap', xs, c9, hld, k0, y0, b0, f0, kd0, hn, hnm, hnil, hrd⟩ := HAC.out.at_ hA.below j hl
      clear HK
      by_cases h50 : 50 < n
      · have hd5 : decide ((50 : Int) < (n : Int)) = true := by rw [decide_eq_true_iff]; omega
        have HB : Hid (Below w.heap.size w wr) := hA.below
        clear hA hrd hld hnil h50
        go_wp2
        go_ret
        exact ⟨rfl, HB.out⟩
      · have hd5 : decide ((50 : Int) < (n : Int)) = false := by rw [decide_eq_false_iff_not]; omega
        have hdo := do_any (w0 := w) (P := P) x hI (by omega) (by omega) k y b f p q kd st wd ao n cap' xs k0 y0 b0 f0 kd0 hn (by omega) hnil hrd wr hA
        have HX : Hid (x.told.length ≤ 6 * j ∧ 0 ≤ x.fl ∧ x.fl ≤ j) := ⟨ht, hf⟩
        clear hA hrd hnil h50 hI ht hf k0 y0 b0 f0 kd0 hn hnm
        go_wp2_with fail
        refine hdo.mono ?_
        rintro e w4 ⟨rfl, x', hD, hA⟩
        have HK5 : Hid (Keep w P (j + 1) w4) := Keep.do_ HX.out.1 HX.out.2 hD hA
        clear hdo hA c9 hld hD HX
        go_wp2_with fail
        go_roundw
        case rel => exact ⟨j + 1, by omega, by go_num, HK5⟩
        case measure => simp [intOf]; omega
    · have hd : decide ((j : Int) < (len : Int)) = false := by rw [decide_eq_false_iff_not]; omega
      obtain ⟨x, hI, ht, hf, hA⟩ := HK.out
      have hnm := hA.nums hI
      have HA : Hid (LA w P 250 x noK wr ∧ Iv x) := ⟨hA, hI⟩
      clear HK hA hI ht hf HAC
      go_upto_region 10 with fail
      clear hd hl hj
      obtain ⟨s0, -, -, -, o0, t0, -⟩ := HA.out.1.all
      obtain ⟨sv, hsv⟩ : ∃ sv : Bool, sv = decide (x.s = 4 ∨ x.s = 5) := ⟨_, rfl⟩
      go_cut [11] from 53 (fun v wc => v = .bool sv ∧ wc = wr)
      case first =>
        by_cases h4 : x.s = 4
        · have e4 : (x.s == 4) = true := by rw [beq_iff_eq]; exact h4
          have hs' : sv = true := by rw [hsv, decide_eq_true_iff]; exact .inl h4
          clear h4 hsv
          go_wp2_with fail
          go_meet
          case rel => exact ⟨by rw [hs'], rfl⟩
        · have e4 : (x.s == 4) = false := by rw [beq_eq_false_iff_ne]; exact h4
          by_cases h5 : x.s = 5
          · have e5 : (x.s == 5) = true := by rw [beq_iff_eq]; exact h5
            have hs' : sv = true := by rw [hsv, decide_eq_true_iff]; exact .inr h5
            clear h4 h5 hsv
            go_wp2_with fail
            go_meet
            case rel => exact ⟨by rw [hs'], rfl⟩
          · have e5 : (x.s == 5) = false := by rw [beq_eq_false_iff_ne]; exact h5
            have hs' : sv = false := by rw [hsv, decide_eq_false_iff_not]; omega
            clear h4 h5 hsv
            go_wp2_with fail
            go_meet
            case rel => exact ⟨by rw [hs'], rfl⟩
      case rest =>
        obtain ⟨rfl, rfl⟩ := hcut
        go_upto_region 11 with fail
        obtain ⟨cl, hcl⟩ : ∃ cl : Bool, cl = (!x.own && !x.their) := ⟨_, rfl⟩
        go_cut [12] from 53 (fun v wx => v = .bool cl ∧ wx = wc)
        case first =>
          have HCL : Hid (cl = (!x.own && !x.their)) := hcl
          clear hcl
          generalize x.own = ow at *
          generalize x.their = tr at *
          cases ow <;> cases tr
          all_goals
            go_wp2_with fail
            go_meet
            case rel => exact ⟨by rw [HCL.out]; rfl, rfl⟩
        case rest =>
          obtain ⟨rfl, rfl⟩ := hcut
          go_upto_region 12 with fail
          have HQ := fun q => HA.out.1.keep (below_drewN (Below.refl _ _) q)
          have hho := fun q => (HQ q).hold
          have hse := fun q => (HQ q).sent
          have hne := fun q => (HQ q).nexts
          have hoc := fun q => (HQ q).octets
          have c4 := HA.out.1.all.2.2.2.1
          have HAd := (show Hid _ from HQ)
          obtain ⟨i1, hi1⟩ : ∃ i1 : Int, (x.hs.sent.length : Int) = i1 := ⟨_, rfl⟩
          obtain ⟨i2, hi2⟩ : ∃ i2 : Int, (x.hs.next.length : Int) = i2 := ⟨_, rfl⟩
          obtain ⟨io, hio⟩ : ∃ io : Int, ((sz x.hs.sent + sz x.hs.next : Nat) : Int) = io := ⟨_, rfl⟩
          have hb1 : 0 ≤ i1 ∧ 0 ≤ i2 ∧ i1 + i2 ≤ 16 ∧ 0 ≤ io ∧ io ≤ 600 := by omega
          simp only [hi1] at hse
          simp only [hi2] at hne
          simp only [hio] at hoc
          obtain ⟨N, hN⟩ : ∃ N : Int, i1 + i2 = N := ⟨_, rfl⟩
          obtain ⟨M, hM⟩ : ∃ M : Int, io + (pn : Int) = M := ⟨_, rfl⟩
          have hNw : IntKind.i64.wrap N = N := IntWalk.i64_in _ (by omega)
          have hMw : IntKind.i64.wrap M = M := IntWalk.i64_in _ (by omega)
          obtain ⟨fu, hfu⟩ : ∃ fu : Bool, fu = (decide (16 ≤ N) || decide (600 < M)) := ⟨_, rfl⟩
          have HN : Hid ((x.hs.sent.length : Int) = i1 ∧ (x.hs.next.length : Int) = i2 ∧ ((sz x.hs.sent + sz x.hs.next : Nat) : Int) = io ∧ i1 + i2 = N ∧ io + (pn : Int) = M ∧ cl = (!x.own && !x.their) ∧ fu = (decide (16 ≤ N) || decide (600 < M))) := ⟨hi1, hi2, hio, hN, hM, hcl, hfu⟩
          have HSV : Hid (sv = decide (x.s = 4 ∨ x.s = 5)) := hsv
          clear hi1 hi2 hio hsv hcl HQ s0 o0 t0 hnm hb1
          go_cut [13] from 53 (fun v wx => v = .bool fu ∧ LA w P 250 x noK wx)
          case first =>
            by_cases h16 : 16 ≤ N
            · have d16 : decide (16 ≤ N) = true := decide_eq_true h16
              have hf' : fu = true := by rw [hfu, d16]; rfl
              clear hfu h16
              go_quiet ((first
                | (with_reducible change Calls Tryz.prog (fHold _) _ _ _; exact Calls.quiet_of_same (hho _))
                | (go_at_call 29; exact Calls.quiet_of_same (hse _))
                | (go_at_call 32; exact Calls.quiet_of_same (hne _))
                | (go_at_call 33; exact Calls.quiet_of (hoc _))))
              all_goals
                go_wp2_with fail
                go_meet
                case rel => exact ⟨by rw [hf'], HAd.out _⟩
            · have d16 : decide (16 ≤ N) = false := decide_eq_false h16
              by_cases h6 : 600 < M
              · have d6 : decide (600 < M) = true := decide_eq_true h6
                have hf' : fu = true := by rw [hfu, d16, d6]; rfl
                clear hfu h16 h6
                go_quiet ((first
                | (with_reducible change Calls Tryz.prog (fHold _) _ _ _; exact Calls.quiet_of_same (hho _))
                | (go_at_call 29; exact Calls.quiet_of_same (hse _))
                | (go_at_call 32; exact Calls.quiet_of_same (hne _))
                | (go_at_call 33; exact Calls.quiet_of (hoc _))))
                all_goals
                  go_wp2_with fail
                  go_meet
                  case rel => exact ⟨by rw [hf'], HAd.out _⟩
              · have d6 : decide (600 < M) = false := decide_eq_false h6
                have hf' : fu = false := by rw [hfu, d16, d6]; rfl
                clear hfu h16 h6
                go_quiet ((first
                | (with_reducible change Calls Tryz.prog (fHold _) _ _ _; exact Calls.quiet_of_same (hho _))
                | (go_at_call 29; exact Calls.quiet_of_same (hse _))
                | (go_at_call 32; exact Calls.quiet_of_same (hne _))
                | (go_at_call 33; exact Calls.quiet_of (hoc _))))
                all_goals
                  go_wp2_with fail
                  go_meet
                  case rel => exact ⟨by rw [hf'], HAd.out _⟩
          case rest =>
            obtain ⟨rfl, hA⟩ := hcut
            clear hho hse hne hoc c4 HAd hfu hN hM hNw hMw
            have hkm : kk.tmod 14 = kk % 14 := Int.tmod_eq_emod_of_nonneg kk0.1
            obtain ⟨κ, hκ⟩ : ∃ κ, kk % 14 = κ := ⟨_, rfl⟩
            have hκ14 : 0 ≤ κ ∧ κ < 14 := by omega
            rw [hκ] at hkm
            have s0 := hA.all.1
            have hor := LA.order (k := 248) hA κ pa pn pcap ps HPR.out.1.symm (by omega) (HPR.out.2.1.below (Nat.le_refl _) hA.below) HPR.out.2.2
            have hE := ord_want HA.out.2 κ ps
            have hst := ord_stays (x := x) κ ps
            obtain ⟨e1, e2, e3, e4, e5, e6, e7⟩ := HN.out
            rw [← HPR.out.1, e1, e2, e3, e4, e5, ← e6, ← e7] at hE
            rw [hE] at hor hst
            obtain ⟨wt, hwt⟩ : ∃ wt, wantE x.s cl fu κ pn = wt := ⟨_, rfl⟩
            rw [hwt] at hor hst
            clear hκ hE e1 e2 e3 e4 e5 e6 e7 hA
            go_wp2_with fail
            refine hor.mono ?_
            rintro e w5 ⟨rfl, hA⟩
            have c0 := hA.all.1
            have HB : Hid (Below w.heap.size w w5) := hA.below
            have HST : Hid (wt ≠ 0 → (x.ord κ ps).s = x.s) := hst
            have HWT : Hid (wantE x.s cl fu κ pn = wt) := hwt
            generalize (x.ord κ ps).s = s' at *
            generalize x.s = s at *
            clear hor hA hst s0 HA hwt
            go_upto_block 2 with fail
            go_cut [16] from 117 (fun v wx => v = .int .i64 wt ∧ wx = w5)
            case first =>
              clear c0
              have hk : κ = 1 ∨ κ = 2 ∨ κ = 5 ∨ κ = 9 ∨ κ = 10 ∨ κ = 11 ∨ κ = 3 ∨ κ = 4 ∨ κ = 6 ∨ κ = 7 ∨ κ = 8 ∨ κ = 0 ∨ κ = 12 ∨ κ = 13 := by omega
              rcases hk with rfl | rfl | rfl | rfl | rfl | rfl | rfl | rfl | rfl | rfl | rfl | rfl | rfl | rfl
              · by_cases h0 : s = 0
                · have n0 : (s != 0) = false := by rw [h0]; rfl
                  have e0 : (s == 0) = true := by rw [h0]; rfl
                  have hv : wt = 0 := by rw [← HWT.out]; simp [wantE, h0]
                  clear HWT HSV HST HB
                  go_wp2_with fail
                  go_meet
                  case rel => exact ⟨by rw [hv], rfl⟩
                · have n0 : (s != 0) = true := by rw [bne_iff_ne]; exact h0
                  have e0 : (s == 0) = false := by rw [beq_eq_false_iff_ne]; exact h0
                  have hv : wt = 9 := by rw [← HWT.out]; simp [wantE, h0]
                  clear HWT HSV HST HB
                  go_wp2_with fail
                  go_meet
                  case rel => exact ⟨by rw [hv], rfl⟩
              · by_cases h0 : s = 0
                · have n0 : (s != 0) = false := by rw [h0]; rfl
                  have e0 : (s == 0) = true := by rw [h0]; rfl
                  have hv : wt = 9 := by rw [← HWT.out]; simp [wantE, h0]
                  clear HWT HSV HST HB
                  go_wp2_with fail
                  go_meet
                  case rel => exact ⟨by rw [hv], rfl⟩
                · have n0 : (s != 0) = true := by rw [bne_iff_ne]; exact h0
                  have e0 : (s == 0) = false := by rw [beq_eq_false_iff_ne]; exact h0
                  have hv : wt = 0 := by rw [← HWT.out]; simp [wantE, h0]
                  clear HWT HSV HST HB
                  go_wp2_with fail
                  go_meet
                  case rel => exact ⟨by rw [hv], rfl⟩
              · cases sv
                · have h45 : ¬ (s = 4 ∨ s = 5) := by have := HSV.out; rw [eq_comm, decide_eq_false_iff_not] at this; exact this
                  have hv : wt = 12 := by rw [← HWT.out]; simp [wantE, h45]
                  clear HWT HSV HST HB
                  go_wp2_with fail
                  go_meet
                  case rel => exact ⟨by rw [hv], rfl⟩
                · have h45 : s = 4 ∨ s = 5 := by have := HSV.out; rw [eq_comm, decide_eq_true_iff] at this; exact this
                  by_cases h3 : pn < 3
                  · have d3 : decide ((pn : Int) < 3) = true := by rw [decide_eq_true_iff]; omega
                    have hv : wt = 5 := by rw [← HWT.out]; simp [wantE, h45, h3]
                    clear HWT HSV HST HB
                    go_wp2_with fail
                    go_meet
                    case rel => exact ⟨by rw [hv], rfl⟩
                  · have d3 : decide ((pn : Int) < 3) = false := by rw [decide_eq_false_iff_not]; omega
                    by_cases h2 : 273 < pn
                    · have d2 : decide ((273 : Int) < (pn : Int)) = true := by rw [decide_eq_true_iff]; omega
                      have hv : wt = 6 := by rw [← HWT.out]; simp [wantE, h45, h3, h2]
                      clear HWT HSV HST HB
                      go_wp2_with fail
                      go_meet
                      case rel => exact ⟨by rw [hv], rfl⟩
                    · have d2 : decide ((273 : Int) < (pn : Int)) = false := by rw [decide_eq_false_iff_not]; omega
                      cases fu
                      · have hv : wt = 0 := by rw [← HWT.out]; simp [wantE, h45, h3, h2]
                        clear HWT HSV HST HB
                        go_wp2_with fail
                        go_meet
                        case rel => exact ⟨by rw [hv], rfl⟩
                      · have hv : wt = 3 := by rw [← HWT.out]; simp [wantE, h45, h3, h2]
                        clear HWT HSV HST HB
                        go_wp2_with fail
                        go_meet
                        case rel => exact ⟨by rw [hv], rfl⟩
              · cases cl
                · have hv : wt = 9 := by rw [← HWT.out]; simp [wantE]
                  clear HWT HSV HST HB
                  go_wp2_with fail
                  go_meet
                  case rel => exact ⟨by rw [hv], rfl⟩
                · have hv : wt = 0 := by rw [← HWT.out]; simp [wantE]
                  clear HWT HSV HST HB
                  go_wp2_with fail
                  go_meet
                  case rel => exact ⟨by rw [hv], rfl⟩
              · cases sv
                · have h45 : ¬ (s = 4 ∨ s = 5) := by have := HSV.out; rw [eq_comm, decide_eq_false_iff_not] at this; exact this
                  have hv : wt = 9 := by rw [← HWT.out]; simp [wantE, h45]
                  clear HWT HSV HST HB
                  go_wp2_with fail
                  go_meet
                  case rel => exact ⟨by rw [hv], rfl⟩
                · have h45 : s = 4 ∨ s = 5 := by have := HSV.out; rw [eq_comm, decide_eq_true_iff] at this; exact this
                  have hv : wt = 0 := by rw [← HWT.out]; simp [wantE, h45]
                  clear HWT HSV HST HB
                  go_wp2_with fail
                  go_meet
                  case rel => exact ⟨by rw [hv], rfl⟩
              · cases sv
                · have h45 : ¬ (s = 4 ∨ s = 5) := by have := HSV.out; rw [eq_comm, decide_eq_false_iff_not] at this; exact this
                  have hv : wt = 9 := by rw [← HWT.out]; simp [wantE, h45]
                  clear HWT HSV HST HB
                  go_wp2_with fail
                  go_meet
                  case rel => exact ⟨by rw [hv], rfl⟩
                · have h45 : s = 4 ∨ s = 5 := by have := HSV.out; rw [eq_comm, decide_eq_true_iff] at this; exact this
                  have hv : wt = 0 := by rw [← HWT.out]; simp [wantE, h45]
                  clear HWT HSV HST HB
                  go_wp2_with fail
                  go_meet
                  case rel => exact ⟨by rw [hv], rfl⟩
              · have hv : wt = 0 := by rw [← HWT.out]; simp [wantE]
                clear HWT HSV HST HB
                go_wp2_with fail
                go_meet
                case rel => exact ⟨by rw [hv], rfl⟩
              · have hv : wt = 0 := by rw [← HWT.out]; simp [wantE]
                clear HWT HSV HST HB
                go_wp2_with fail
                go_meet
                case rel => exact ⟨by rw [hv], rfl⟩
              · have hv : wt = 0 := by rw [← HWT.out]; simp [wantE]
                clear HWT HSV HST HB
                go_wp2_with fail
                go_meet
                case rel => exact ⟨by rw [hv], rfl⟩
              · have hv : wt = 0 := by rw [← HWT.out]; simp [wantE]
                clear HWT HSV HST HB
                go_wp2_with fail
                go_meet
                case rel => exact ⟨by rw [hv], rfl⟩
              · have hv : wt = 0 := by rw [← HWT.out]; simp [wantE]
                clear HWT HSV HST HB
                go_wp2_with fail
                go_meet
                case rel => exact ⟨by rw [hv], rfl⟩
              · have hv : wt = 1 := by rw [← HWT.out]; simp [wantE]
                clear HWT HSV HST HB
                go_wp2_with fail
                go_meet
                case rel => exact ⟨by rw [hv], rfl⟩
              · have hv : wt = 1 := by rw [← HWT.out]; simp [wantE]
                clear HWT HSV HST HB
                go_wp2_with fail
                go_meet
                case rel => exact ⟨by rw [hv], rfl⟩
              · have hv : wt = 1 := by rw [← HWT.out]; simp [wantE]
                clear HWT HSV HST HB
                go_wp2_with fail
                go_meet
                case rel => exact ⟨by rw [hv], rfl⟩
            case rest =>
              obtain ⟨rfl, rfl⟩ := hcut
              by_cases hw0 : wt = 0
              · have z0 : (wt == 0) = true := by rw [hw0]; rfl
                clear hw0
                go_wp2
                go_ret
                exact ⟨rfl, HB.out⟩
              · have z0 : (wt == 0) = false := by rw [beq_eq_false_iff_ne]; exact hw0
                obtain rfl : s' = s := HST.out hw0
                clear hw0
                go_wp2
                go_ret
                exact ⟨rfl, HB.out⟩
end Go.Proofs.YtldjglmelbkngaaGreat.Tape
