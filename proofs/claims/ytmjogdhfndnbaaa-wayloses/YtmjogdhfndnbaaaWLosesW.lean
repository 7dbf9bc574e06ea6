/- WayLoses' walk. -/
import Derived.Test.YtmjogdhfndnbaaaWLose7
import Derived.Test.YtmjogdhfndnbaaaWay3
import Derived.Deep.CutBlock
namespace Go.Proofs.Ytmjogdhfndnbaaa.Tape
open Go.ChangeShapes Go.WideShapes Go.ChangeAt Go.RowKit
set_option linter.unusedVariables false

attribute [local go_sem ↓] ldU_def stU_def
attribute [local go_sem] m_hold c_hold m_next c_next m_ans c_ans n_ans m_take c_take n_take

theorem wq_start (c : Bool) {w0 w : World} {pa hba pb hbb : Nat} {Ta Tb : Nat → Prop} (ha : WayIn w pa hba w0.heap.size Ta (wt0 c 8 300) ⟨16, 600, 0, [], []⟩) (hb : WayIn w pb hbb w0.heap.size Tb (wt0 c 8 300) ⟨16, 600, 0, [], []⟩) (hab : ∀ g, (g = pa ∨ Ta g) → (g = pb ∨ Tb g) → False) (hB : Below w0.heap.size w0 w) : WQ w0 w0.heap.size pa hba pb hbb c ls0 w := by
  have e1 : taW c ls0 = wt0 c 8 300 := by cases c <;> simp [taW, wt0, ls0, cs0, bs0]
  have e2 : tbW c ls0 = wt0 c 8 300 := by cases c <;> simp [tbW, wt0, ls0, cs0, bs0]
  have e3 : saW ls0 = ⟨16, 600, 0, [], []⟩ := by simp [saW, ls0, mgr]
  refine ⟨Ta, Tb, ?_, ?_, hab, hB, Nat.le_refl _⟩
  · rw [e1, e3]; exact ha
  · rw [e2]; exact hb

set_option maxRecDepth 100000 in
set_option maxHeartbeats 4000000 in
theorem wloses_walk (c : Bool) (x : Int) (a : Option Addr) (len cap : Nat) (xs : List Int) (w : World) (h0 : 0 ≤ x) (h1 : x ≤ 255) (hlen : len = xs.length) (hrd : Reads w a (xs.map (.int .u8))) (hxs : ∀ x ∈ xs, 0 ≤ x ∧ x ≤ 255) (hl60 : len ≤ 60) :
    Calls Try.prog 6 #[.bool c, .int .u8 x, .slice a len cap] w fun e w' => e = .returned (.bool true) ∧ Below w.heap.size w w' := by
  obtain ⟨k, hk⟩ : ∃ k : Nat, x % 40 = k := ⟨(x % 40).toNat, by omega⟩
  have hk40 : k < 40 := by omega
  have HK : Hid (x % 40 = k) := hk
  have HXS : Hid (∀ x ∈ xs, 0 ≤ x ∧ x ≤ 255) := hxs
  have HRD : Hid (Reads w a (xs.map (.int .u8))) := hrd
  have HLEN : Hid (len = xs.length) := hlen
  clear hk hxs hrd hlen
  go_enter Try.func6, Try.ntmps6
  go_wp2_with fail
  refine (awake13_any _).mono ?_
  rintro e1 w1 ⟨rfl, hB1⟩
  go_wp2_with fail
  refine (usual_any c w1).mono ?_
  rintro e w2 ⟨rfl, hB2⟩
  have hB02 := hB1.trans (below_le hB2 hB1.size)
  clear hB1 hB2
  go_wp2_with fail
  refine (wnew_any c 8 300 16 600 600 12000 8000 4000 1200 100 4000 6000 w.heap.size w2 (by omega) (by omega) (by omega) (by omega) hB02.size).mono ?_
  rintro e w3 ⟨pa, hba, Ta, rfl, hina, -, hB3⟩
  have hB03 := hB02.trans (below_le hB3 hB02.size)
  clear hB02 hB3
  rw [wayV_eq]
  go_wp2_with fail
  refine (usual_any c w3).mono ?_
  rintro e w4 ⟨rfl, hB4⟩
  have hB04 := hB03.trans (below_le hB4 hB03.size)
  have hina4 := hina.below hB4
  clear hB03 hB4 hina
  go_wp2_with fail
  refine (wnew_any c 8 300 16 600 600 12000 8000 4000 1200 100 4000 6000 w.heap.size w4 (by omega) (by omega) (by omega) (by omega) hB04.size).mono ?_
  rintro e w5 ⟨pb, hbb, Tb, rfl, hinb, hTb, hB5⟩
  have hab : ∀ g, (g = pa ∨ Ta g) → (g = pb ∨ Tb g) → False := fun g ga gb => by
    have := (hina4.low g ga).2
    have := hTb g gb
    omega
  have hWQ := wq_start c (hina4.below hB5) hinb hab (hB04.trans (below_le hB5 hB04.size))
  have HWQ : Hid (WQ w w.heap.size pa hba pb hbb c ls0 w5) := hWQ
  clear hina4 hinb hTb hab hB04 hB5 hWQ
  rw [wayV_eq]
  go_wp2_with fail
  go_loopw [9, 10, 11] (fun g n i wr => ∃ j : Nat, j ≤ 300 ∧ i = .int .i64 j ∧ g = .int .i64 (wst c k xs j).g ∧ n = .int .i64 (wst c k xs j).P ∧ WQ w w.heap.size pa hba pb hbb c (wst c k xs j) wr) (fun _ _ i _ => 300 - (intOf i).toNat)
  case atStart => exact ⟨0, by omega, rfl, rfl, rfl, HWQ.out⟩
  case round =>
    clear HWQ
    obtain ⟨j, hj, rfl, rfl, rfl, hq⟩ := hrel
    by_cases hlt : j < 300
    · have hf := wst_fine c k xs hk40 j
      obtain ⟨s, hs⟩ : ∃ s, s = wst c k xs j := ⟨_, rfl⟩
      rw [← hs] at hf hq
      rw [← hs]
      have HS : Hid (s = wst c k xs j) := hs
      have HF : Hid (s.Fine c k) := hf
      have HQ : Hid (WQ w w.heap.size pa hba pb hbb c s wr) := hq
      have hP40 : s.P < 40 := by have := hf.Pk; omega
      have hG40 : s.g < 40 := by have := hf.Pk; have := hf.gS; have := hf.SP; omega
      clear hs hf hq
      -- the put
      go_upto_region 10 with fail
      go_cut [51] from 34 to 53 (fun v W => v = .bool (decide (s.P < k ∧ s.P < s.f + 16)) ∧ WQ w w.heap.size pa hba pb hbb c (s.put k) W)
      case first =>
        by_cases hPk : s.P < k
        · obtain ⟨W, hW⟩ : ∃ W, W = wr.alloc (.cells #[.int .u8 s.P, .int .u8 1, .int .u8 2] 5) := ⟨_, rfl⟩
          have hho := q_holdA HQ.out
          have hpu := q_put HQ.out HF.out hPk W hW
          have hk := HK.out
          have e8 : IntKind.u8.wrap (s.P : Int) = s.P := by rw [IntKind.wrap_u8]; omega
          by_cases hr : s.P < s.f + 16
          · rw [if_pos hr] at hpu
            go_wp2_with (first
              | (go_at_call 10; rw [← hW]; refine hpu.mono ?_; rintro e w6 ⟨rfl, hq6⟩)
              | (with_reducible change Calls Try.prog (fHold _) _ _ _; refine hho.mono ?_; rintro e w6 ⟨rfl, hw6⟩; obtain rfl := hw6.symm; clear hw6))
            go_meet
            case rel => exact ⟨by rw [decide_eq_true (show s.P < k ∧ s.P < s.f + 16 from ⟨hPk, hr⟩)], hq6⟩
          · rw [if_neg hr] at hpu
            go_wp2_with (first
              | (go_at_call 10; rw [← hW]; refine hpu.mono ?_; rintro e w6 ⟨rfl, hq6⟩)
              | (with_reducible change Calls Try.prog (fHold _) _ _ _; refine hho.mono ?_; rintro e w6 ⟨rfl, hw6⟩; obtain rfl := hw6.symm; clear hw6))
            go_meet
            case rel => exact ⟨by rw [decide_eq_false (show ¬ (s.P < k ∧ s.P < s.f + 16) from fun e => hr e.2)], hq6⟩
        · have hk := HK.out
          have hPP : s.put k = s := by unfold LS.put; rw [if_neg (fun e => hPk e.1)]
          go_wp2_with fail
          go_meet
          case rel => exact ⟨by rw [decide_eq_false (show ¬ (s.P < k ∧ s.P < s.f + 16) from fun e => hPk e.1)], by rw [hPP]; exact HQ.out⟩
      case rest =>
        obtain ⟨rfl, hq1⟩ := hcut
        have HQ1 : Hid (WQ w w.heap.size pa hba pb hbb c (s.put k) wc) := hq1
        clear HQ hq1
        obtain ⟨R, hR⟩ : ∃ R, R = decide (s.P < k ∧ s.P < s.f + 16) := ⟨_, rfl⟩
        rw [← hR]
        have HP1 : Hid ((s.put k).P = if R = true then s.P + 1 else s.P) := by
          show _ = _
          rw [hR]
          unfold LS.put
          by_cases hc : s.P < k ∧ s.P < s.f + 16
          · rw [if_pos hc, if_pos (decide_eq_true hc)]
          · rw [if_neg hc, if_neg (by simpa using hc)]
        clear hR
        go_upto_if 51 with fail
        go_cut [10] from 34 to 53 (fun v W => v = .int .i64 (s.put k).P ∧ W = wc)
        case first =>
          cases R
          all_goals
            have h1 := HP1.out
            go_wp2_with fail
            go_meet
            case rel => exact ⟨by rw [h1]; first | rfl | go_num, rfl⟩
        case rest =>
          obtain ⟨rfl, hwc⟩ := hcut
          obtain rfl := hwc.symm
          clear HP1 hwc
          have hf1 := LS.put_fine HF.out
          obtain ⟨s1, hs1⟩ : ∃ s1, s1 = s.put k := ⟨_, rfl⟩
          rw [← hs1] at hf1 HQ1
          rw [← hs1]
          have HS1 : Hid (s1 = s.put k) := hs1
          have HF1 : Hid (s1.Fine c k) := hf1
          have hna := q_nextA HQ1.out hf1
          clear hs1 hf1
          -- the two units
          go_wp2_with fail
          refine hna.mono ?_
          rintro e w6 ⟨v, rfl, hi6, hq6⟩
          obtain ⟨va, vn, vcp, rfl⟩ := hi6.form
          obtain ⟨W7, hst7, hB7, hh7⟩ := kept_any w6 (uAw c s1 (.slice va vn vcp)) rfl (uC_one _ _ _ _ _ _ _ _)
          have hq7 := hq6.below hB7
          have hi7 := (K2.of_below hB7).info hi6
          have hnb := q_nextB hq7
          have HI7 : Hid (InfoAt W7 w.heap.size (.slice va vn vcp) ((s1.out c).map mg)) := hi7
          have HH7 : Hid (W7.heap[w6.heap.size]? = some (.cells (uAw c s1 (.slice va vn vcp)) 36 (0, 0))) := hh7
          clear hna hi6 hq6 hB7 hh7 hq7 hi7 HQ1
          go_wp2_with fail
          refine hnb.mono ?_
          rintro e w8 ⟨rfl, hk8, hq8⟩
          obtain ⟨W9, hst9, hB9, hh9⟩ := kept_any w8 (uBw c (s1.snt c)) rfl (uC_one _ _ _ _ _ _ _ _)
          have hk9 := hk8.trans (K2.of_below hB9)
          have HQ9 : Hid (WQ w w.heap.size pa hba pb hbb c (s1.snt c) W9) := hq8.below hB9
          have HI9 : Hid (InfoAt W9 w.heap.size (.slice va vn vcp) ((s1.out c).map mg)) := hk9.info HI7.out
          have HA9 : Hid (W9.heap[w6.heap.size]? = some (.cells (uAw c s1 (.slice va vn vcp)) 36 (0, 0))) := hk9.unit HH7.out
          have HB9 : Hid (W9.heap[w8.heap.size]? = some (.cells (uBw c (s1.snt c)) 36 (0, 0))) := hh9
          obtain ⟨ua, hua⟩ : ∃ ua, ua = w6.heap.size := ⟨_, rfl⟩
          obtain ⟨ub, hub⟩ : ∃ ub, ub = w8.heap.size := ⟨_, rfl⟩
          clear hnb HI7 HH7 hk8 hq8 hB9 hh9 hk9
          go_upto_region 14 with fail
          rw [← hua] at HA9
          rw [← hub] at HB9
          rw [← hua, ← hub]
          clear hst7 hst9 hua hub
          -- what is lost
          obtain ⟨z, hz⟩ : ∃ z, z = wloss xs j := ⟨_, rfl⟩
          have HZ : Hid (z = wloss xs j) := hz
          go_upto_if 61 with fail
          go_cut [14] from 58 to 66 (fun v W => v = .int .u8 z ∧ W = W9)
          case first =>
            by_cases hl : j < len
            · obtain ⟨ga, oa, rfl, hcz⟩ := (HRD.out.below (Nat.le_refl _) HQ9.out.low).byte j (by have := HLEN.out; omega)
              obtain ⟨y, hy⟩ : ∃ y, y = xs[j]'(by have := HLEN.out; omega) := ⟨_, rfl⟩
              rw [← hy] at hcz
              have hy2 := HXS.out y (by rw [hy]; exact List.getElem_mem _)
              have hzy : z = y % 4 := by
                rw [hz, hy]
                unfold wloss
                rw [if_pos (by have := HLEN.out; omega)]
                simp [List.getD, show j < xs.length by have := HLEN.out; omega]
              clear hy hz
              go_wp2_with fail
              go_meet
              case rel => exact ⟨by rw [hzy], rfl⟩
            · have hz0 : z = 0 := by
                rw [hz]
                unfold wloss
                rw [if_neg (by have := HLEN.out; omega)]
              clear hz
              go_wp2_with fail
              go_meet
              case rel => exact ⟨by rw [hz0], rfl⟩
          case rest =>
            obtain ⟨rfl, hwc⟩ := hcut
            obtain rfl := hwc.symm
            clear hwc hz
            have hz4 : 0 ≤ z ∧ z < 4 := by
              rw [HZ.out]
              unfold wloss
              split <;> omega
            obtain ⟨s2, hs2⟩ : ∃ s2, s2 = s1.snt c := ⟨_, rfl⟩
            obtain ⟨s3, hs3⟩ : ∃ s3, s3 = if rbW xs j then s2.tkn c (s1.out c) else s2 := ⟨_, rfl⟩
            have HS3 : Hid (s3 = if rbW xs j then s2.tkn c (s1.out c) else s2) := hs3
            have HS2 : Hid (s2 = s1.snt c) := hs2
            clear hs3
            -- b gets a's unit
            go_upto_if 69 with fail
            go_cut [9, 15, 16, 17] from 67 to 95 (fun g _ _ _ W => g = .int .i64 s3.g ∧ WQ w w.heap.size pa hba pb hbb c s3 W ∧ W.heap[ub]? = some (.cells (uBw c s2) 36 (0, 0)))
            case first =>
              by_cases hev : z % 2 = 0
              · have hrb : rbW xs j = true := by unfold rbW; rw [← HZ.out]; exact decide_eq_true hev
                have h3 : s3 = s2.tkn c (s1.out c) := by rw [HS3.out, hrb]; rfl
                have hg3 := (tkn_g c s2 (s1.out c)).1
                rw [← h3] at hg3
                have hl9 := (ld_unit HA9.out rfl).1
                have hab := q_ansB HQ9.out (s1.num c) (kd ((s1.out c).map mg)) (taW c s1).fib (.slice va vn vcp)
                change Calls Try.prog (fAns c) #[.pointer (some ⟨pb, 0, none⟩), .agg (uAw c s1 (.slice va vn vcp))] W9 _ at hab
                have H3 : Hid (s3 = s2.tkn c (s1.out c)) := h3
                have HG3 : Hid (s3.g = if s2.tks c (s1.out c) then s2.g + 1 else s2.g) := hg3
                clear h3 hg3 hrb
                go_wp2_with fail
                refine hab.mono ?_
                rintro e w10 ⟨rfl, hk10, hq10⟩
                have HA10 : Hid (w10.heap[ua]? = some (.cells (uAw c s1 (.slice va vn vcp)) 36 (0, 0))) := hk10.unit HA9.out
                have HB10 : Hid (w10.heap[ub]? = some (.cells (uBw c (s1.snt c)) 36 (0, 0))) := hk10.unit HB9.out
                have hl10 := (ld_unit HA10.out rfl).1
                have htk := q_takeB hq10 HF1.out (.slice va vn vcp) (hk10.info HI9.out)
                clear hab hl9 hk10 hq10
                go_wp2_with fail
                refine htk.mono ?_
                rintro e w11 ⟨vo, n, vc, rfl, hok, hk11, hq11⟩
                have HB11 : Hid (w11.heap[ub]? = some (.cells (uBw c s2) 36 (0, 0))) := by
                  have := hk11.unit HB10.out
                  rw [HS2.out]
                  exact this
                have HQ11 : Hid (WQ w w.heap.size pa hba pb hbb c s3 w11) := by
                  have := hq11
                  rw [← HS2.out, ← H3.out] at this
                  exact this
                rw [← HS2.out] at hok
                rw [← HS2.out]
                have hgg : s2.g = s.g := by
                  rw [HS2.out, (LS.snt_parts c s1).2.1, HS1.out, (LS.put_parts k s).2.2.2.1]
                have hg1 : s1.g = s.g := by rw [HS1.out, (LS.put_parts k s).2.2.2.1]
                rw [hgg] at HG3
                rw [hg1] at hok
                have HG4 : Hid (s3.g = if s2.tks c (s1.out c) then s.g + 1 else s.g) := HG3
                clear HG3 hgg hg1 htk hl10 hk11 hq11
                generalize s2.tks c (s1.out c) = ok at *
                cases ok
                · clear hok
                  have hg := HG4.out
                  simp only [Bool.false_eq_true, if_false] at hg
                  go_wp2_with fail
                  go_meet
                  case rel => exact ⟨by rw [hg], HQ11.out, HB11.out⟩
                · obtain ⟨rfl, hrd⟩ := hok rfl
                  obtain ⟨gv, ov, rfl, hcv⟩ := hrd.byte 0 (by simp [mg])
                  have hcv' : w11.cell? ⟨gv, ov, none⟩ = some (.int .u8 s.g) := by simpa [mg] using hcv
                  have hg := HG4.out
                  simp only [if_true] at hg
                  clear hok hrd hcv
                  have e9 : wrap64 (s.g : Int) = s.g := by unfold wrap64; omega
                  go_wp2_with fail
                  go_meet
                  case rel => exact ⟨by rw [hg]; go_num, HQ11.out, HB11.out⟩
              · have hrb : rbW xs j = false := by unfold rbW; rw [← HZ.out]; exact decide_eq_false hev
                have h3 : s3 = s2 := by rw [HS3.out, hrb]; rfl
                have hgg : s3.g = s.g := by
                  rw [h3, HS2.out, (LS.snt_parts c s1).2.1, HS1.out, (LS.put_parts k s).2.2.2.1]
                have HQ10 : Hid (WQ w w.heap.size pa hba pb hbb c s3 W9) := by
                  have := HQ9.out
                  rw [← HS2.out, ← h3] at this
                  exact this
                have HB10 : Hid (W9.heap[ub]? = some (.cells (uBw c s2) 36 (0, 0))) := by
                  have := HB9.out
                  rw [← HS2.out] at this
                  exact this
                clear h3 hrb hs2
                go_wp2_with fail
                go_meet
                case rel => exact ⟨by rw [hgg], HQ10.out, HB10.out⟩
            case rest =>
              obtain ⟨rfl, hq3, hb3⟩ := hcut
              -- what a may be told
              have hbd : s3.f ≤ s2.g ∧ s2.g ≤ s3.S ∧ s3.f ≤ s3.r ∧ s3.r ≤ s3.S ∧ s3.S < 40 ∧ s3.P = s1.P := by
                obtain ⟨p1, p2, p3, p4, p5, p6⟩ := LS.snt_parts c s1
                obtain ⟨q1, q2, q3, q4, -, -⟩ := LS.snt_fine HF1.out
                obtain ⟨f1, f2, f3, f4, f5, -, -, -, -, -⟩ := HF1.out
                obtain ⟨-, t2, t3, t4, t5, -⟩ := tkn_g c s2 (s1.out c)
                rw [← HS2.out] at p1 p2 p3 q1 q2 q3 q4
                have e3 : s3.f = s2.f ∧ s3.S = s2.S ∧ s3.r = s2.r ∧ s3.P = s2.P := by
                  rw [HS3.out]
                  split
                  · exact ⟨t3, t4, t5, t2⟩
                  · exact ⟨rfl, rfl, rfl, rfl⟩
                obtain ⟨e3, e4, e5, e6⟩ := e3
                rw [e3, e4, e5, e6]
                exact ⟨by omega, by omega, q1, q2, by omega, p3⟩
              have HBD : Hid (s3.f ≤ s2.g ∧ s2.g ≤ s3.S ∧ s3.f ≤ s3.r ∧ s3.r ≤ s3.S ∧ s3.S < 40 ∧ s3.P = s1.P) := hbd
              have HQ3 : Hid (WQ w w.heap.size pa hba pb hbb c s3 wc) := hq3
              have HB3 : Hid (wc.heap[ub]? = some (.cells (uBw c s2) 36 (0, 0))) := hb3
              have hrnd : ∀ ra, raW xs j = ra → wst c k xs (j + 1) = if ra then s3.ans c s2.g s2.B else s3 := fun ra hra => by
                show (wst c k xs j).rnd c k (rbW xs j) (raW xs j) = _
                obtain ⟨-, p2, -, -, p5, -⟩ := LS.snt_parts c s1
                rw [hra, ← HS.out, HS3.out, HS2.out, p2, p5, HS1.out]
                rfl
              clear hbd hq3 hb3 hs2
              by_cases hlo : z < 2
              · have hra := hrnd true (by unfold raW; rw [← HZ.out]; exact decide_eq_true hlo)
                simp only [if_true] at hra
                have HW : Hid (wst c k xs (j + 1) = s3.ans c s2.g s2.B) := hra
                have hl3 := (ld_unit HB3.out rfl).1
                have haa := q_ansA HQ3.out s2.g s2.B HBD.out.1 HBD.out.2.1 HBD.out.2.2.1 HBD.out.2.2.2.1 HBD.out.2.2.2.2.1 (tbW c s2).bib (by cases c <;> rfl)
                change Calls Try.prog (fAns c) #[.pointer (some ⟨pa, 0, none⟩), .agg (uBw c s2)] wc _ at haa
                clear hra hrnd
                go_wp2_with fail
                refine haa.mono ?_
                rintro e w12 ⟨⟨r, rfl⟩, hk12, hq12⟩
                have HQ12 : Hid (WQ w w.heap.size pa hba pb hbb c (s3.ans c s2.g s2.B) w12) := hq12
                have hl12 := (ld_unit (hk12.unit HB3.out) rfl).1
                have hta := q_takeA HQ12.out (((s2.g : Int) + 127) % 128) (tbW c s2).bib
                change Calls Try.prog (fTake c) #[.pointer (some ⟨pa, 0, none⟩), .agg (uBw c s2)] w12 _ at hta
                clear haa hl3 hk12 hq12
                go_wp2_with fail
                refine hta.mono ?_
                rintro e w13 ⟨⟨vo, n, vc, rfl⟩, hq13⟩
                have HQ13 : Hid (WQ w w.heap.size pa hba pb hbb c (wst c k xs (j + 1)) w13) := by
                  rw [HW.out]
                  exact hq13
                have HG13 : Hid ((wst c k xs (j + 1)).g = s3.g ∧ (wst c k xs (j + 1)).P = s1.P) := by
                  obtain ⟨-, e1, e2⟩ := tbW_ans c s3 s2.g s2.B
                  rw [HW.out]
                  exact ⟨e1, e2.trans HBD.out.2.2.2.2.2⟩
                clear hta hl12 hq13
                go_wp2_with fail
                go_roundw
                case rel => exact ⟨j + 1, by omega, by go_num, by rw [HG13.out.1], by rw [HG13.out.2], HQ13.out⟩
                case measure => simp [intOf]; omega
              · have hra := hrnd false (by unfold raW; rw [← HZ.out]; exact decide_eq_false hlo)
                simp only [Bool.false_eq_true, if_false] at hra
                have HQ13 : Hid (WQ w w.heap.size pa hba pb hbb c (wst c k xs (j + 1)) wc) := by
                  rw [hra]
                  exact HQ3.out
                have HG13 : Hid ((wst c k xs (j + 1)).g = s3.g ∧ (wst c k xs (j + 1)).P = s1.P) := by
                  rw [hra]
                  exact ⟨rfl, HBD.out.2.2.2.2.2⟩
                clear hra hrnd
                go_wp2_with fail
                go_roundw
                case rel => exact ⟨j + 1, by omega, by go_num, by rw [HG13.out.1], by rw [HG13.out.2], HQ13.out⟩
                case measure => simp [intOf]; omega
    · obtain ⟨hg, hP⟩ := wst_last c k xs hk40 (by have := HLEN.out; omega) j (by omega)
      have HB : Hid (Below w.heap.size w wr) := hq.low
      have hk := HK.out
      rw [hg, hP]
      clear hq hg hP
      go_wp2_with fail
      go_ret
      exact ⟨rfl, HB.out⟩
end Go.Proofs.Ytmjogdhfndnbaaa.Tape
