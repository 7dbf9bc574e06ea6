/- The walk of the law FlagCuts: it returns true and writes nothing that was there. -/
import Derived.Test.YtfjfnfofbhikdaaCuts1
import Derived.BigQuiet
import Derived.Deep.QuietTactic
namespace Go.Proofs.Ytfjfnfofbhikdaa.Tape
open Go.ChangeShapes Go.WideShapes Go.ChangeAt Go.RowKit
attribute [local go_sem ↓] Go.wp_at_zero Go.wp_at_succ

theorem eats_len (s : Ear) (l : List Bool) : (eats s l).length ≤ l.length := by
  induction l generalizing s with
  | nil => simp [eats]
  | cons b l ih =>
    have := ih (eat s b).1
    simp only [eats, List.length_append, List.length_cons]
    cases (eat s b).2 <;> simp <;> omega
theorem told_eats {hs hs' : List HV} {bs : List Bool} (h : hs.map HV.said = eats ear0 bs) (h' : hs'.map HV.told = eatsAt ear0 0 bs) : hs.map HV.said = hs'.map HV.said := by
  rw [h, ← told_said, h', eatsAt_fst]

set_option maxRecDepth 100000 in
set_option maxHeartbeats 4000000 in
theorem cuts_walk (lo jo ho co : Option Addr) (L lc J jc H hc C cc : Nat) (ls : List RV) (js hs cs : List Int) (w : World) (hn : ls.length = L) (hL : L ≤ maxLen) (hls : Lots w lo ls) (hJ : js.length = J) (hJm : J ≤ maxLen) (hjr : ∀ x ∈ js, 0 ≤ x ∧ x ≤ 255) (hjs : Reads w jo (js.map (.int .u8)))
    (hH : hs.length = H) (hHm : H ≤ maxLen) (hhr : ∀ x ∈ hs, 0 ≤ x ∧ x ≤ 255) (hhs : Reads w ho (hs.map (.int .u8))) (hC : cs.length = C) (hCm : C ≤ maxLen) (hcr : ∀ x ∈ cs, 0 ≤ x ∧ x ≤ 255) (hcs : Reads w co (cs.map (.int .u8))) :
    Calls Try.prog 6 #[.slice lo L lc, .slice jo J jc, .slice ho H hc, .slice co C cc] w fun e w' => e = .returned (.bool true) ∧ Below w.heap.size w w' := by
  have HN : Hid (ls.length = L) := hn
  have HC : Hid (cs.length = C) := hC
  have hJ' : J ≤ 9223372036854775807 := hJm
  have hC' : C ≤ 9223372036854775807 := hCm
  clear hC hCm
  go_enter Try.func6, Try.ntmps6
  go_wp2_with fail
  refine (awake5_any _).mono ?_
  rintro e w1 ⟨rfl, hb1⟩
  have hls1 := hls.below hb1
  have hsh := short_any lo L lc ls w1 HN.out hL hls1
  cases hf : few ls L
  · rw [hf] at hsh
    go_wp2_with fail
    refine hsh.mono ?_
    rintro e w2 ⟨rfl, hw2⟩
    obtain rfl := hw2.symm
    clear hw2 hsh
    go_wp2_with fail
    refine (awake5_any _).mono ?_
    rintro e w3 ⟨rfl, hb3⟩
    go_wp2
    go_ret
    exact ⟨rfl, hb1.trans (hb3.mono hb1.size)⟩
  rw [hf] at hsh
  obtain ⟨h60, hL12⟩ := few_yes hf
  have H60 : Hid (∀ r ∈ ls, r.n ≤ 60) := h60
  clear hf h60
  by_cases hJ2 : 200 < J
  · go_wp2_with fail
    refine hsh.mono ?_
    rintro e w2 ⟨rfl, hw2⟩
    obtain rfl := hw2.symm
    clear hw2 hsh
    go_wp2_with fail
    refine (awake5_any _).mono ?_
    rintro e w3 ⟨rfl, hb3⟩
    go_wp2
    go_ret
    exact ⟨rfl, hb1.trans (hb3.mono hb1.size)⟩
  go_wp2_with fail
  refine hsh.mono ?_
  rintro e w2 ⟨rfl, hw2⟩
  obtain rfl := hw2.symm
  clear hw2 hsh
  have hst := stream_any lo jo ho L lc J jc H hc ls js hs w1 HN.out hL12 hls1 H60.out hJ (by omega) hjr (hjs.below (Nat.le_refl _) hb1) hH hHm hhr (hhs.below (Nat.le_refl _) hb1)
  clear hls hls1 hjs hhs hjr hhr hJ hH hn hL
  go_wp2_with fail
  refine hst.mono ?_
  rintro e w2 ⟨v2, bs, rfl, hbl, hbl8, hown2, hb2⟩
  have hB2 := hb1.trans (hb2.mono hb1.size)
  obtain ⟨M, hM⟩ : ∃ M, bs.length = M := ⟨_, rfl⟩
  have HM : Hid (bs.length = M) := hM
  rw [hM] at hown2 hbl hbl8
  obtain ⟨g2, ca2, rfl, hbg2, hlg2⟩ := hown2.form (by omega)
  have hca2 := owns_cap hown2
  have hrd2 := Reads.of_owns hown2
  have hw2 := hB2.size
  have hearx0 := ear_new (w := w2) (B := w.heap.size) hB2.size
  have hBx := below_alloc w2 (.cells #[.bool false, .slice none 0 0, .int .i64 0, .int .i64 0] 48)
  have heary0 := ear_new (w := w2.alloc (.cells #[.bool false, .slice none 0 0, .int .i64 0, .int .i64 0] 48)) (B := w.heap.size) (Nat.le_trans hB2.size hBx.size)
  have hBy := below_alloc (w2.alloc (.cells #[.bool false, .slice none 0 0, .int .i64 0, .int .i64 0] 48)) (.cells #[.bool false, .slice none 0 0, .int .i64 0, .int .i64 0] 48)
  have hs1 : (w2.alloc (.cells #[.bool false, .slice none 0 0, .int .i64 0, .int .i64 0] 48)).heap.size = w2.heap.size + 1 := by simp
  have hs2 : ((w2.alloc (.cells #[.bool false, .slice none 0 0, .int .i64 0, .int .i64 0] 48)).alloc (.cells #[.bool false, .slice none 0 0, .int .i64 0, .int .i64 0] 48)).heap.size = w2.heap.size + 2 := by simp
  rw [hs1] at heary0
  have hearx1 := hearx0.below hBy
  have hBxy := hBx.trans (hBy.mono hBx.size)
  have hrd3 := hrd2.below (Nat.le_refl _) hBxy
  have hB3 := hB2.trans (hBxy.mono hB2.size)
  have hhe := hear_any (some ⟨g2, 0, none⟩) M ca2 bs ((w2.alloc (.cells #[.bool false, .slice none 0 0, .int .i64 0, .int .i64 0] 48)).alloc (.cells #[.bool false, .slice none 0 0, .int .i64 0, .int .i64 0] 48)) HM.out (by omega) hca2 hrd3
  have HXY : Hid (EarAt ((w2.alloc (.cells #[.bool false, .slice none 0 0, .int .i64 0, .int .i64 0] 48)).alloc (.cells #[.bool false, .slice none 0 0, .int .i64 0, .int .i64 0] 48)) w.heap.size w2.heap.size (.slice none 0 0) ear0 ∧ EarAt ((w2.alloc (.cells #[.bool false, .slice none 0 0, .int .i64 0, .int .i64 0] 48)).alloc (.cells #[.bool false, .slice none 0 0, .int .i64 0, .int .i64 0] 48)) w.heap.size (w2.heap.size + 1) (.slice none 0 0) ear0 ∧ Reads ((w2.alloc (.cells #[.bool false, .slice none 0 0, .int .i64 0, .int .i64 0] 48)).alloc (.cells #[.bool false, .slice none 0 0, .int .i64 0, .int .i64 0] 48)) (some ⟨g2, 0, none⟩) (bs.map .bool) ∧ Below w.heap.size w ((w2.alloc (.cells #[.bool false, .slice none 0 0, .int .i64 0, .int .i64 0] 48)).alloc (.cells #[.bool false, .slice none 0 0, .int .i64 0, .int .i64 0] 48)) ∧ ((w2.alloc (.cells #[.bool false, .slice none 0 0, .int .i64 0, .int .i64 0] 48)).alloc (.cells #[.bool false, .slice none 0 0, .int .i64 0, .int .i64 0] 48)).heap.size = w2.heap.size + 2) := ⟨hearx1, heary0, hrd3, hB3, hs2⟩
  clear hst hM hown2 hrd2 hearx0 hBx heary0 hBy hs1 hs2 hearx1 hBxy hrd3 hB3 hb2 hB2 hb1
  go_wp2_with fail
  obtain ⟨hearx, heary, hrd, hB, hsW⟩ := HXY.out
  refine hhe.mono ?_
  rintro e w5 ⟨u5, hs5, rfl, htd5, hrow5, hb5⟩
  have hB5 := hB.trans (hb5.mono hB.size)
  have hearx5 := hearx.below hb5
  have heary5 := heary.below hb5
  have hrd5 := hrd.below (Nat.le_refl _) hb5
  rw [hsW] at hrow5
  have hsz5 : w2.heap.size + 2 ≤ w5.heap.size := by have := hb5.size; omega
  have HTD : Hid (hs5.map HV.told = eatsAt ear0 0 bs) := htd5
  have HROW : Hid (HRow 61 3 HV.three (w2.heap.size + 2) u5 hs5 w5) := hrow5
  have HEX : Hid (EarAt w5 w.heap.size w2.heap.size (.slice none 0 0) ear0) := hearx5
  have HEY : Hid (EarAt w5 w.heap.size (w2.heap.size + 1) (.slice none 0 0) ear0) := heary5
  have HRD : Hid (Reads w5 (some ⟨g2, 0, none⟩) (bs.map .bool)) := hrd5
  have HB5 : Hid (Below w.heap.size w w5) := hB5
  have hlw : hs5.length ≤ 100000 := by
    have h1 := congrArg List.length htd5
    have h2 := eats_len ear0 bs
    rw [← eatsAt_fst ear0 0 bs, List.length_map] at h2
    rw [List.length_map] at h1
    have := HM.out
    omega
  have hsep5 : Hid (Sep w2.heap.size (.slice none 0 0) u5 hs5) := Sep.mk (fun y hy z hz => ⟨by have := ((hrow5.each y hy).2.1 z hz).1; omega, by simp [Value.ownBlock]⟩) (fun g hg => ⟨by have := (hrow5.row.lt g hg).1; omega, by simp [Value.ownBlock]⟩)
  have hsep5y : Hid (Sep (w2.heap.size + 1) (.slice none 0 0) u5 hs5) := Sep.mk (fun y hy z hz => ⟨by have := ((hrow5.each y hy).2.1 z hz).1; omega, by simp [Value.ownBlock]⟩) (fun g hg => ⟨by have := (hrow5.row.lt g hg).1; omega, by simp [Value.ownBlock]⟩)
  obtain ⟨uo5, cap5, hu5, hcap5, -, -⟩ := hrow5.at3
  subst hu5
  obtain ⟨W5, hW5⟩ : ∃ W5, hs5.length = W5 := ⟨_, rfl⟩
  have HW5 : Hid (hs5.length = W5) := hW5
  rw [hW5] at hlw hcap5 ⊢
  clear hhe HXY hearx heary hrd hB hsW htd5 hrow5 hearx5 heary5 hrd5 hB5 hb5 hW5
  go_wp2
  go_loopw [14, 15] (fun kq i wr => ∃ (k q : Nat) (s : Ear) (v : Value), k ≤ M ∧ q ≤ W5 ∧ kq = .int .i64 q ∧ i = .int .i64 k ∧ EarAt wr w.heap.size w2.heap.size v s ∧ Fr w2.heap.size (.slice none 0 0) w5 wr ∧ Moved w5 (.slice none 0 0) v ∧ (hs5.map HV.told).drop q = eatsAt s k (bs.drop k)) (fun _ i _ => M - (intOf i).toNat)
  case atStart => exact ⟨0, 0, ear0, _, by omega, by omega, rfl, rfl, HEX.out, Fr.refl _ _ _, Moved.refl _ _, by simpa using HTD.out⟩
  case round =>
    clear HEX
    obtain ⟨k, q, s, v, hk, hq, rfl, rfl, hear, hfr, hmv, hq1⟩ := hrel
    have HQ : Hid ((hs5.map HV.told).drop q = eatsAt s k (bs.drop k)) := hq1
    have HFR : Hid (Fr w2.heap.size (.slice none 0 0) w5 wr) := hfr
    clear hq1
    by_cases hlt : k < M
    · have hkb : k < bs.length := by have := HM.out; omega
      have hr1 : Reads wr (some ⟨g2, 0, none⟩) (bs.map .bool) := HRD.out.far (fun x hx => by cases hx; exact hfr.block g2 (by omega) (by omega) (by simp [Value.ownBlock]))
      obtain ⟨g2', off', hgo, hcb⟩ := hr1.bool k hkb
      simp only [Option.some.injEq, Addr.mk.injEq, and_true] at hgo
      obtain ⟨rfl, rfl⟩ := hgo
      rw [Nat.zero_add] at hcb
      have hd : Hid (bs.drop k = bs[k] :: bs.drop (k + 1)) := drop_cons bs k hkb
      obtain ⟨b, hb⟩ : ∃ b, bs[k] = b := ⟨_, rfl⟩
      rw [hb] at hcb hd
      have hbit := bit_any w.heap.size w2.heap.size v s b wr hear
      rcases hP : eat s b with ⟨s2, o⟩
      rw [hP] at hbit
      have HP : Hid (eat s b = (s2, o)) := hP
      clear hb hP hear hr1 hfr
      cases o with
      | none =>
        obtain ⟨hn1, hn2⟩ := next_none (b := b) (by rw [← hd.out]; exact HQ.out) HP.out
        have HN1 : Hid ((hs5.map HV.told).drop q = eatsAt s2 (k + 1) (bs.drop (k + 1))) := hn1
        go_wp2_with fail
        refine hbit.mono ?_
        rintro e w6 ⟨v6, ⟨vo, m, ca, rfl, -, -, -, -, -, -⟩, hear6, hfr6, hmv6⟩
        have hF6 : Fr w2.heap.size (.slice none 0 0) w5 w6 := HFR.out.trans hmv hfr6
        have hF7 := hF6.trans (v := .slice none 0 0) (Moved.refl _ _) (Fr.of_below (below_alloc w6 (.cells #[.int .u8 0, .slice vo m ca] 57)))
        have HEAR7 : Hid (EarAt (w6.alloc (.cells #[.int .u8 0, .slice vo m ca] 57)) w.heap.size w2.heap.size v6 s2) := hear6.below (below_alloc _ _)
        have HF7 : Hid (Fr w2.heap.size (.slice none 0 0) w5 (w6.alloc (.cells #[.int .u8 0, .slice vo m ca] 57))) := hF7
        have HMV : Hid (Moved w5 (.slice none 0 0) v6) := hmv.trans HFR.out.size hmv6
        have hrow7 := HROW.out.fr hsep5.out hF7
        obtain ⟨uo', cap', hu', -, -, hat⟩ := hrow7.at3
        simp only [Value.slice.injEq] at hu'
        obtain ⟨rfl, -, rfl⟩ := hu'
        by_cases hqW : q < W5
        · have hqh : q < hs5.length := by have := HW5.out; omega
          obtain ⟨g5, rfl, -, -, hpos⟩ := hat q hqh
          have hne := hn2 hqh
          have hpe : ((hs5[q].pos : Int) == (k : Int) + 1) = false := by rw [beq_eq_false_iff_ne]; omega
          generalize hs5[q].pos = ps at hpos hpe
          rw [Nat.mul_comm] at hpos
          clear hat hrow7 hF6 hF7 hear6 hfr6 hmv6 hbit hmv hn1 hn2 hne
          go_wp2
          go_roundw
          case rel => exact ⟨k + 1, q, s2, v6, by omega, by omega, rfl, by go_num, HEAR7.out, HF7.out, HMV.out, HN1.out⟩
          case measure => simp [intOf]; omega
        · clear hat hrow7 hF6 hF7 hear6 hfr6 hmv6 hbit hmv hn1 hn2
          go_wp2
          go_roundw
          case rel => exact ⟨k + 1, q, s2, v6, by omega, by omega, rfl, by go_num, HEAR7.out, HF7.out, HMV.out, HN1.out⟩
          case measure => simp [intOf]; omega
      | some x =>
        obtain ⟨K, ys⟩ := x
        obtain ⟨hqh, hn1, hn2, hn3⟩ := next_some (b := b) (by rw [← hd.out]; exact HQ.out) HP.out
        have HN3 : Hid ((hs5.map HV.told).drop (q + 1) = eatsAt s2 (k + 1) (bs.drop (k + 1))) := hn3
        have hqW : q < W5 := by have := HW5.out; omega
        go_wp2_with fail
        refine hbit.mono ?_
        rintro e w6 ⟨v6, ⟨vo, m, ca, rfl, -, -, -, -, -, -⟩, hear6, hfr6, hmv6⟩
        have hF6 : Fr w2.heap.size (.slice none 0 0) w5 w6 := HFR.out.trans hmv hfr6
        have hF7 := hF6.trans (v := .slice none 0 0) (Moved.refl _ _) (Fr.of_below (below_alloc w6 (.cells #[.int .u8 K, .slice vo m ca] 57)))
        have HEAR7 : Hid (EarAt (w6.alloc (.cells #[.int .u8 K, .slice vo m ca] 57)) w.heap.size w2.heap.size v6 s2) := hear6.below (below_alloc _ _)
        have HF7 : Hid (Fr w2.heap.size (.slice none 0 0) w5 (w6.alloc (.cells #[.int .u8 K, .slice vo m ca] 57))) := hF7
        have HMV : Hid (Moved w5 (.slice none 0 0) v6) := hmv.trans HFR.out.size hmv6
        have hrow7 := HROW.out.fr hsep5.out hF7
        obtain ⟨uo', cap', hu', -, -, hat⟩ := hrow7.at3
        simp only [Value.slice.injEq] at hu'
        obtain ⟨rfl, -, rfl⟩ := hu'
        obtain ⟨g5, rfl, hkd, -, hpos⟩ := hat q hqh
        rw [hn1] at hkd
        rw [hn2] at hpos
        rw [Nat.mul_comm] at hpos hkd
        have hpe : ((((k + 1 : Nat) : Int)) == (k : Int) + 1) = true := by rw [beq_iff_eq]; omega
        clear hat hrow7 hF6 hF7 hear6 hfr6 hmv6 hbit hmv hn1 hn2 hn3
        go_wp2
        go_quiet (fail)
        go_wp2
        go_roundw
        case rel => exact ⟨k + 1, q + 1, s2, v6, by omega, by omega, by go_num, by go_num, HEAR7.out.below (below_drewN (Below.refl _ _) _), HF7.out.trans (v := .slice none 0 0) (Moved.refl _ _) (Fr.of_below (below_drewN (Below.refl _ _) _)), HMV.out, HN3.out⟩
        case measure => simp [intOf]; omega
    · have hkM : k = M := by omega
      have hqW : q = W5 := by
        have h1 := HQ.out
        have hz : bs.drop k = [] := List.drop_eq_nil_of_le (by have := HM.out; omega)
        rw [hz, eatsAt, List.drop_eq_nil_iff, List.length_map] at h1
        have := HW5.out; omega
      subst hqW
      have hB6 := HB5.out.trans (hfr.below hw2 (by simp [Value.ownBlock]) HB5.out.size)
      have heary6 : EarAt wr w.heap.size (w2.heap.size + 1) (.slice none 0 0) ear0 := HEY.out.far' (hfr.block _ (by omega) (by omega) (by simp [Value.ownBlock])) (by simp [Value.ownBlock])
      have hrd6 : Reads wr (some ⟨g2, 0, none⟩) (bs.map .bool) := HRD.out.far (fun x hx => by cases hx; exact hfr.block g2 (by omega) (by omega) (by simp [Value.ownBlock]))
      have hrow6 := HROW.out.fr hsep5.out hfr
      have hsz6 : w2.heap.size + 2 ≤ wr.heap.size := by have := hfr.size; omega
      obtain ⟨w6, hw6⟩ : ∃ w6, w6 = wr := ⟨_, rfl⟩
      subst hw6
      have HB6 : Hid (Below w.heap.size w w6) := hB6
      have HEY6 : Hid (EarAt w6 w.heap.size (w2.heap.size + 1) (.slice none 0 0) ear0) := heary6
      have HRD6 : Hid (Reads w6 (some ⟨g2, 0, none⟩) (bs.map .bool)) := hrd6
      have HROW6 : Hid (HRow 61 3 HV.three (w2.heap.size + 2) (.slice uo5 hs5.length cap5) hs5 w6) := hrow6
      clear hB6 heary6 hrd6 hrow6 hear hfr hmv HFR HQ HROW HEY HRD HB5 hsep5 hkM
      go_wp2
      go_loopw [18, 19, 20] (fun u p i wr => ∃ (j t : Nat) (vy : Value) (hs' : List HV), j ≤ C ∧ t ≤ M ∧ i = .int .i64 j ∧ p = .int .i64 t ∧ HRow 57 2 HV.two w6.heap.size u hs' wr ∧ Sep (w2.heap.size + 1) vy u hs' ∧ EarAt wr w.heap.size (w2.heap.size + 1) vy (after ear0 (bs.take t)) ∧ hs'.map HV.said = eats ear0 (bs.take t) ∧ Fr (w2.heap.size + 1) (.slice none 0 0) w6 wr ∧ Moved w6 (.slice none 0 0) vy) (fun _ _ i _ => C - (intOf i).toNat)
      case atStart => exact ⟨0, 0, .slice none 0 0, [], by omega, by omega, rfl, rfl, HRow.nil _ _ _ _ _, Sep.nil _ _, by rw [List.take_zero]; exact HEY6.out, by rw [List.take_zero]; rfl, Fr.refl _ _ _, Moved.refl _ _⟩
      case round =>
        obtain ⟨j, t, vy, hs', hj, ht, rfl, rfl, hrow, hsep, hear, hsd, hfr, hmv⟩ := hrel
        have HROWA : Hid (HRow 57 2 HV.two w6.heap.size u18 hs' wr) := hrow
        have HSEPA : Hid (Sep (w2.heap.size + 1) vy u18 hs') := hsep
        have HSDA : Hid (hs'.map HV.said = eats ear0 (bs.take t)) := hsd
        have HFRA : Hid (Fr (w2.heap.size + 1) (.slice none 0 0) w6 wr) := hfr
        have HMVA : Hid (Moved w6 (.slice none 0 0) vy) := hmv
        have hlh : hs'.length ≤ 100000 := by
          have h1 := congrArg List.length hsd
          have h2 := eats_len ear0 (bs.take t)
          rw [List.length_map] at h1
          rw [List.length_take] at h2
          omega
        have hBr := HB6.out.trans (hfr.below (by omega) (by simp [Value.ownBlock]) HB6.out.size)
        have hrdr : Reads wr (some ⟨g2, 0, none⟩) (bs.map .bool) := HRD6.out.far (fun x hx => by cases hx; exact hfr.block g2 (by omega) (by omega) (by simp [Value.ownBlock]))
        have hszr := hfr.size
        have hawr : ∀ off, Away wr (w2.heap.size + 1) vy (some ⟨g2, off, none⟩) := fun off x hx => by
          cases hx
          exact ⟨by simp only; omega, by simp only; omega, fun e => by rcases hmv _ e with e | e; simp [Value.ownBlock] at e; simp only at e; omega⟩
        have hdr : ∀ (D : Nat), Reads wr (some ⟨g2, t, none⟩) (((bs.drop t).take D).map .bool) := fun D => by
          have := (hrdr.drop t).take D
          rw [Nat.zero_add] at this
          rwa [← List.map_drop, ← List.map_take] at this
        have HDR : Hid (∀ (D : Nat), Reads wr (some ⟨g2, t, none⟩) (((bs.drop t).take D).map .bool)) := hdr
        have HAWR : Hid (∀ off, Away wr (w2.heap.size + 1) vy (some ⟨g2, off, none⟩)) := hawr
        have HBR : Hid (Below w.heap.size w wr) := hBr
        have HEAR : Hid (EarAt wr w.heap.size (w2.heap.size + 1) vy (after ear0 (bs.take t))) := hear
        have hcsr := hcs.below (Nat.le_refl _) hBr
        clear hrow hsep hsd hfr hmv hrdr hawr hdr hear hBr
        by_cases hjt : j < C ∧ t < M
        · obtain ⟨hjC, htM⟩ := hjt
          have hjl : j < cs.length := by have := HC.out; omega
          obtain ⟨gc, oc, rfl, hcc⟩ := hcsr.byte j hjl
          have hcx := hcr cs[j] (List.getElem_mem hjl)
          obtain ⟨x, hx⟩ : ∃ x, x = cs[j] := ⟨_, rfl⟩
          rw [← hx] at hcc hcx
          obtain ⟨n, hn, hnM, hnt⟩ : ∃ n : Nat, (n : Int) = (if (M : Int) < (t : Int) + x then (M : Int) else (t : Int) + x) ∧ n ≤ M ∧ t ≤ n := by
            by_cases hh : (M : Int) < (t : Int) + x
            · exact ⟨M, by rw [if_pos hh], Nat.le_refl _, by omega⟩
            · exact ⟨((t : Int) + x).toNat, by rw [if_neg hh]; omega, by omega, by omega⟩
          have x0 : 0 ≤ x := hcx.1
          have x1 : x ≤ 255 := hcx.2
          obtain ⟨D, hD⟩ : ∃ D, D = n - t := ⟨_, rfl⟩
          have HTL : Hid (((bs.drop t).take D).length = D) := by show _ = _; rw [List.length_take, List.length_drop]; have := HM.out; omega
          have HTK : Hid (bs.take n = bs.take t ++ (bs.drop t).take D) := by show _ = _; rw [hD]; exact bs_cut bs t n hnt
          have hbi := ebits_any w.heap.size (w2.heap.size + 1) D (ca2 - t) vy _ (some ⟨g2, t, none⟩) ((bs.drop t).take D) wr HTL.out (by omega) (HDR.out D) (HAWR.out t) HEAR.out
          rw [← after_append, ← HTK.out] at hbi
          have htc : ¬ ca2 = t := by omega
          have HNN : Hid ((n : Int) = (if (M : Int) < (t : Int) + x then (M : Int) else (t : Int) + x)) := hn
          have hDD : n - t = D := hD.symm
          have HEA : Hid (eats ear0 (bs.take n) = eats ear0 (bs.take t) ++ eats (after ear0 (bs.take t)) ((bs.drop t).take D)) := by show _ = _; rw [HTK.out, eats_append]
          clear hx hcx hD hn hjl hcsr
          by_cases hbig : (M : Int) < (t : Int) + x
          · have hnM2 : n = M := by have := HNN.out; rw [if_pos hbig] at this; omega
            subst hnM2
            go_wp2_with fail
            refine hbi.mono ?_
            rintro e w7 ⟨u7, hs7, v7, rfl, hsd7, hrow7, hsep7, hear7, hfr7, hmv7⟩
            have hl7 : hs7.length ≤ 100000 := by
              have h1 := congrArg List.length hsd7
              have h2 := eats_len (after ear0 (bs.take t)) ((bs.drop t).take D)
              rw [List.length_map] at h1
              rw [HTL.out] at h2
              omega
            have hrowA7 := (HROWA.out.fr HSEPA.out hfr7).row
            have hsz7 : w6.heap.size ≤ w7.heap.size := by have := hfr7.size; omega
            have HSD7 : Hid (hs7.map HV.said = eats (after ear0 (bs.take t)) ((bs.drop t).take D)) := hsd7
            have HROW7 : Hid (HRow 57 2 HV.two wr.heap.size u7 hs7 w7) := hrow7
            have HREST : Hid (Sep (w2.heap.size + 1) v7 u7 hs7 ∧ EarAt w7 w.heap.size (w2.heap.size + 1) v7 (after ear0 (bs.take n)) ∧ Fr (w2.heap.size + 1) vy wr w7 ∧ Moved wr vy v7) := ⟨hsep7, hear7, hfr7, hmv7⟩
            clear hbi hsd7 hrow7 hsep7 hear7 hfr7 hmv7
            go_wp2_with (at_builtin; refine append_heard rfl _ _ rfl w6.heap.size u18 hs'.length (hs'.flatMap HV.two) rfl hrowA7 _ u7 hs7 rfl HROW7.out (by omega) hsz7 ?_; intro v8 w8 hown8 hgrow8 hat8; obtain ⟨k1, k2, k3, k4, k5⟩ := cuts_step (by omega) HROWA.out HSEPA.out HFRA.out HMVA.out HROW7.out HREST.out.1 HREST.out.2.1 HREST.out.2.2.1 HREST.out.2.2.2 hown8 hgrow8 hat8; clear hown8 hgrow8 hat8)
            go_roundw
            case rel => exact ⟨j + 1, n, v7, hs' ++ hs7, by omega, by omega, by go_num, by go_num, k1, k2, k3, by rw [List.map_append, HSDA.out, HSD7.out, HEA.out], k4, k5⟩
            case measure => simp [intOf]; omega
          · have en : (t : Int) + x = (n : Int) := by have := HNN.out; rw [if_neg hbig] at this; omega
            have hnM3 : ¬ ((M : Int) < (n : Int)) := by omega
            clear hbig
            go_wp2_with fail
            refine hbi.mono ?_
            rintro e w7 ⟨u7, hs7, v7, rfl, hsd7, hrow7, hsep7, hear7, hfr7, hmv7⟩
            have hl7 : hs7.length ≤ 100000 := by
              have h1 := congrArg List.length hsd7
              have h2 := eats_len (after ear0 (bs.take t)) ((bs.drop t).take D)
              rw [List.length_map] at h1
              rw [HTL.out] at h2
              omega
            have hrowA7 := (HROWA.out.fr HSEPA.out hfr7).row
            have hsz7 : w6.heap.size ≤ w7.heap.size := by have := hfr7.size; omega
            have HSD7 : Hid (hs7.map HV.said = eats (after ear0 (bs.take t)) ((bs.drop t).take D)) := hsd7
            have HROW7 : Hid (HRow 57 2 HV.two wr.heap.size u7 hs7 w7) := hrow7
            have HREST : Hid (Sep (w2.heap.size + 1) v7 u7 hs7 ∧ EarAt w7 w.heap.size (w2.heap.size + 1) v7 (after ear0 (bs.take n)) ∧ Fr (w2.heap.size + 1) vy wr w7 ∧ Moved wr vy v7) := ⟨hsep7, hear7, hfr7, hmv7⟩
            clear hbi hsd7 hrow7 hsep7 hear7 hfr7 hmv7
            go_wp2_with (at_builtin; refine append_heard rfl _ _ rfl w6.heap.size u18 hs'.length (hs'.flatMap HV.two) rfl hrowA7 _ u7 hs7 rfl HROW7.out (by omega) hsz7 ?_; intro v8 w8 hown8 hgrow8 hat8; obtain ⟨k1, k2, k3, k4, k5⟩ := cuts_step (by omega) HROWA.out HSEPA.out HFRA.out HMVA.out HROW7.out HREST.out.1 HREST.out.2.1 HREST.out.2.2.1 HREST.out.2.2.2 hown8 hgrow8 hat8; clear hown8 hgrow8 hat8)
            go_roundw
            case rel => exact ⟨j + 1, n, v7, hs' ++ hs7, by omega, by omega, by go_num, by go_num, k1, k2, k3, by rw [List.map_append, HSDA.out, HSD7.out, HEA.out], k4, k5⟩
            case measure => simp [intOf]; omega
        · have HTL : Hid (((bs.drop t).take (M - t)).length = M - t) := by show _ = _; rw [List.length_take, List.length_drop]; have := HM.out; omega
          have HTK : Hid (bs = bs.take t ++ (bs.drop t).take (M - t)) := by
            show _ = _
            have := bs_cut bs t M ht
            rwa [List.take_of_length_le (by have := HM.out; omega)] at this
          have HEA : Hid (eats ear0 bs = eats ear0 (bs.take t) ++ eats (after ear0 (bs.take t)) ((bs.drop t).take (M - t))) := by
            show _ = _
            rw [← eats_append, ← HTK.out]
          obtain ⟨D, hD⟩ : ∃ D, M - t = D := ⟨_, rfl⟩
          rw [hD] at HTL HEA
          have hDM : D ≤ 100000 := by omega
          have hbi1 := ebits_any w.heap.size (w2.heap.size + 1) D (ca2 - t) vy _ (some ⟨g2, t, none⟩) ((bs.drop t).take D) wr HTL.out (by omega) (HDR.out _) (HAWR.out t) HEAR.out
          have hbi0 : ca2 = t → Calls Try.prog 23 #[.pointer (some ⟨w2.heap.size + 1, 0, none⟩), .slice (some ⟨g2, 0, none⟩) D 0] wr fun e w' => Heard wr w' w.heap.size (w2.heap.size + 1) vy (after (after ear0 (bs.take t)) ((bs.drop t).take D)) (eats (after ear0 (bs.take t)) ((bs.drop t).take D)) e := fun hct => by
            have hz : (bs.drop t).take D = [] := List.eq_nil_of_length_eq_zero (by rw [HTL.out]; omega)
            exact ebits_any w.heap.size (w2.heap.size + 1) D 0 vy _ (some ⟨g2, 0, none⟩) _ wr HTL.out (by omega) (by rw [hz]; exact Reads.nil _ _) (HAWR.out 0) HEAR.out
          have HROWW : Hid (HRow 61 3 HV.three (w2.heap.size + 2) (.slice uo5 q cap5) hs5 w6) := by have := HROW6.out; rw [HW5.out] at this; exact this
          have HTDS : Hid (hs5.map HV.said = eats ear0 bs) := by show _ = _; rw [← told_said, HTD.out, eatsAt_fst]
          have HSEPW : Hid (Sep (w2.heap.size + 1) (.slice none 0 0) (.slice uo5 q cap5) hs5) := by have := hsep5y.out; rw [HW5.out] at this; exact this
          clear HDR HAWR hcsr hcs hcr
          by_cases hct : ca2 = t
          · have hbi := hbi0 hct
            have hct2 := hct.symm
            subst hct2
            clear hbi0 hbi1
            rcases Nat.lt_or_ge j C with hjC | hjC
            all_goals
              first | have hnt : ¬ ((t : Int) < (M : Int)) := by omega
                    | have hnj : ¬ ((j : Int) < (C : Int)) := by omega
              clear hjt
              go_wp2_with fail
              refine hbi.mono ?_
              rintro e w7 ⟨u7, hs7, v7, rfl, hsd7, hrow7, hsep7, hear7, hfr7, hmv7⟩
              have hl7 : hs7.length ≤ 100000 := by
                have h1 := congrArg List.length hsd7
                have h2 := eats_len (after ear0 (bs.take t)) ((bs.drop t).take D)
                rw [List.length_map] at h1
                rw [HTL.out] at h2
                omega
              have hrowA7 := (HROWA.out.fr HSEPA.out hfr7).row
              have hsz7 : w6.heap.size ≤ w7.heap.size := by have := hfr7.size; omega
              have HSD7 : Hid (hs7.map HV.said = eats (after ear0 (bs.take t)) ((bs.drop t).take D)) := hsd7
              have HROW7 : Hid (HRow 57 2 HV.two wr.heap.size u7 hs7 w7) := hrow7
              have HREST : Hid (Sep (w2.heap.size + 1) v7 u7 hs7 ∧ EarAt w7 w.heap.size (w2.heap.size + 1) v7 (after (after ear0 (bs.take t)) ((bs.drop t).take D)) ∧ Fr (w2.heap.size + 1) vy wr w7 ∧ Moved wr vy v7) := ⟨hsep7, hear7, hfr7, hmv7⟩
              clear hbi hsd7 hrow7 hsep7 hear7 hfr7 hmv7
              go_wp2_with (at_builtin; refine append_heard rfl _ _ rfl w6.heap.size u18 hs'.length (hs'.flatMap HV.two) rfl hrowA7 _ u7 hs7 rfl HROW7.out (by omega) hsz7 ?_; intro v8 w8 hown8 hgrow8 hat8; obtain ⟨k1, k2, k3, k4, k5⟩ := cuts_step (by omega) HROWA.out HSEPA.out HFRA.out HMVA.out HROW7.out HREST.out.1 HREST.out.2.1 HREST.out.2.2.1 HREST.out.2.2.2 hown8 hgrow8 hat8; clear hown8 hgrow8 hat8)
              have hB8 := HB6.out.trans (k4.below (by omega) (by simp [Value.ownBlock]) HB6.out.size)
              have hhe := heard_true _ _ v8 (.slice uo5 q cap5) (hs' ++ hs7) hs5 w8 k1 (HROWW.out.fr HSEPW.out k4) (by rw [List.map_append, HSDA.out, HSD7.out, HTDS.out, HEA.out]) (by simp; omega)
              clear k1 k2 k3 k4 k5
              refine hhe.mono ?_
              rintro e w9 ⟨rfl, q9, rfl⟩
              go_wp2
              go_ret
              exact ⟨rfl, below_drewN hB8 q9⟩
          · have hbi := hbi1
            clear hbi0 hbi1
            rcases Nat.lt_or_ge j C with hjC | hjC
            all_goals
              first | have hnt : ¬ ((t : Int) < (M : Int)) := by omega
                    | have hnj : ¬ ((j : Int) < (C : Int)) := by omega
              clear hjt
              go_wp2_with fail
              refine hbi.mono ?_
              rintro e w7 ⟨u7, hs7, v7, rfl, hsd7, hrow7, hsep7, hear7, hfr7, hmv7⟩
              have hl7 : hs7.length ≤ 100000 := by
                have h1 := congrArg List.length hsd7
                have h2 := eats_len (after ear0 (bs.take t)) ((bs.drop t).take D)
                rw [List.length_map] at h1
                rw [HTL.out] at h2
                omega
              have hrowA7 := (HROWA.out.fr HSEPA.out hfr7).row
              have hsz7 : w6.heap.size ≤ w7.heap.size := by have := hfr7.size; omega
              have HSD7 : Hid (hs7.map HV.said = eats (after ear0 (bs.take t)) ((bs.drop t).take D)) := hsd7
              have HROW7 : Hid (HRow 57 2 HV.two wr.heap.size u7 hs7 w7) := hrow7
              have HREST : Hid (Sep (w2.heap.size + 1) v7 u7 hs7 ∧ EarAt w7 w.heap.size (w2.heap.size + 1) v7 (after (after ear0 (bs.take t)) ((bs.drop t).take D)) ∧ Fr (w2.heap.size + 1) vy wr w7 ∧ Moved wr vy v7) := ⟨hsep7, hear7, hfr7, hmv7⟩
              clear hbi hsd7 hrow7 hsep7 hear7 hfr7 hmv7
              go_wp2_with (at_builtin; refine append_heard rfl _ _ rfl w6.heap.size u18 hs'.length (hs'.flatMap HV.two) rfl hrowA7 _ u7 hs7 rfl HROW7.out (by omega) hsz7 ?_; intro v8 w8 hown8 hgrow8 hat8; obtain ⟨k1, k2, k3, k4, k5⟩ := cuts_step (by omega) HROWA.out HSEPA.out HFRA.out HMVA.out HROW7.out HREST.out.1 HREST.out.2.1 HREST.out.2.2.1 HREST.out.2.2.2 hown8 hgrow8 hat8; clear hown8 hgrow8 hat8)
              have hB8 := HB6.out.trans (k4.below (by omega) (by simp [Value.ownBlock]) HB6.out.size)
              have hhe := heard_true _ _ v8 (.slice uo5 q cap5) (hs' ++ hs7) hs5 w8 k1 (HROWW.out.fr HSEPW.out k4) (by rw [List.map_append, HSDA.out, HSD7.out, HTDS.out, HEA.out]) (by simp; omega)
              clear k1 k2 k3 k4 k5
              refine hhe.mono ?_
              rintro e w9 ⟨rfl, q9, rfl⟩
              go_wp2
              go_ret
              exact ⟨rfl, below_drewN hB8 q9⟩
end Go.Proofs.Ytfjfnfofbhikdaa.Tape
