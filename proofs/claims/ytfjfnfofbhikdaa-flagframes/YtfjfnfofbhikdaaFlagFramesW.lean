/- The walk of the law FlagFrames: it returns true and writes nothing that was there. -/
import Derived.Test.YtfjfnfofbhikdaaOct
namespace Go.Proofs.Ytfjfnfofbhikdaa.Tape
open Go.ChangeShapes Go.WideShapes Go.ChangeAt Go.RowKit

set_option maxRecDepth 100000 in
set_option maxHeartbeats 2000000 in
theorem frames_walk (ao : Option Addr) (cap : Nat) (xs : List Int) (c : Int) (w : World) (hr : Reads w ao (xs.map (.int .u8))) (hx : ∀ x ∈ xs, 0 ≤ x ∧ x ≤ 255) (wc : (Lit.int .u16 c).wf = true) :
    Calls Try.prog 3 #[.slice ao xs.length cap, .int .u16 c] w fun e w' => e = .returned (.bool true) ∧ Below w.heap.size w w' := by
  obtain ⟨c0, c1⟩ := bounds_u16 wc
  by_cases hlen : 300 < xs.length
  · go_enter Try.func3, Try.ntmps3
    go_wp2_with fail
    refine (awake5_any _).mono ?_
    rintro e w1 ⟨rfl, hb1⟩
    go_wp2_with fail
    refine (awake5_any _).mono ?_
    rintro e w2 ⟨rfl, hb2⟩
    go_wp2
    go_ret
    exact ⟨rfl, hb1.trans (hb2.mono hb1.size)⟩
  · obtain ⟨N, hN⟩ : ∃ N : Nat, c % 300 = (N : Int) := ⟨(c % 300).toNat, by omega⟩
    have hN3 : N < 300 := by omega
    go_enter Try.func3, Try.ntmps3
    go_wp2_with fail
    refine (awake5_any _).mono ?_
    rintro e w1 ⟨rfl, hb1⟩
    have hr1 := hr.below (Nat.le_refl _) hb1
    have hoc := octets5_any ao cap xs.length N xs w1 rfl (by omega) (by omega) hx hr1
    clear hr hr1 hx
    go_wp2_with fail
    refine hoc.mono ?_
    rintro e w2 ⟨qs, v2, rfl, hql, hqr, hown2, hb2⟩
    have hB2 := hb1.trans (hb2.mono hb1.size)
    obtain ⟨vo2, ca2, rfl, hca2, hrq2, hv2⟩ := owns_form hown2
    have hnil2 : vo2 = none → ca2 = 0 := by rintro rfl; rcases hv2 with ⟨_, _, h⟩ | ⟨g, hg⟩ <;> simp_all
    have HQ : Hid (qs.length = N) := hql
    clear hoc hown2 hb1 hb2 hql hv2
    by_cases hbad : N < 3 ∨ 277 < N
    · have hfb := frame_bad vo2 ca2 N w2 (by omega) hbad
      by_cases h3 : N < 3
      · rw [if_pos h3] at hfb
        clear hbad
        go_wp2_with fail
        refine hfb.mono ?_
        rintro e w3 ⟨rfl, hw3⟩
        obtain rfl := hw3.symm
        clear hw3 hfb
        go_wp2
        go_ret
        exact ⟨rfl, hB2⟩
      · have h277 : 277 < N := by omega
        rw [if_neg h3] at hfb
        clear hbad
        go_wp2_with fail
        refine hfb.mono ?_
        rintro e w3 ⟨rfl, hw3⟩
        obtain rfl := hw3.symm
        clear hw3 hfb
        go_wp2
        go_ret
        exact ⟨rfl, hB2⟩
    · have h3 : 3 ≤ N := by omega
      have h277 : N ≤ 277 := by omega
      clear hbad
      have hfl := frm_len qs
      have hj := jdg_put qs hqr (by rw [HQ.out]; exact h3) (by rw [HQ.out]; exact h277)
      obtain ⟨P, hP⟩ : ∃ P, P = put (bits (qs ++ chk qs)) := ⟨_, rfl⟩
      have HF : Hid (frm qs = P ++ flg) := by show _ = _; rw [hP]; rfl
      rw [← hP] at hj
      obtain ⟨K, hK⟩ : ∃ K, P.length = K := ⟨_, rfl⟩
      have HK : Hid (P.length = K) := hK
      have HFL : Hid ((frm qs).length = K + 8) := by show _ = _; rw [HF.out, List.length_append, hK]; rfl
      rw [HFL.out, HQ.out] at hfl
      have hK1 : K ≤ 5000 := by omega
      have HJ : Hid (jdg P = (qs, 0)) := hj
      clear hfl hj hP hK
      have hfo := frame_ok vo2 ca2 N qs w2 HQ.out h3 h277 hqr hnil2 hrq2
      rw [HFL.out] at hfo
      go_wp2_with fail
      refine hfo.mono ?_
      rintro e w3 ⟨v3, rfl, hown3, hb3⟩
      obtain ⟨vo3, ca3, rfl, hca3, hrt3, -⟩ := owns_form hown3
      have hrq3 := hrq2.below (Nat.le_refl _) hb3
      have hB3 := hB2.trans (hb3.mono hB2.size)
      have hrP : Reads w3 vo3 (P.map .bool) := by
        have := hrt3.take K
        rw [← List.map_take, HF.out, ← HK.out, List.take_left] at this
        exact this
      obtain ⟨g3, o3, rfl⟩ := reads_some hrt3 (by rw [List.length_map, HFL.out]; omega)
      have e8 : ((K + 8 : Nat) : Int) - 8 = (K : Int) := by omega
      have hKc : K ≤ ca3 := by omega
      clear hfo hown3 hb3 hrq2 hB2
      go_wp2_with fail
      refine (judge_any _ _ _ P (qs, 0) _ HK.out (by omega) HJ.out hrP).mono ?_
      rintro e w4 ⟨vo4, m4, ca4, rfl, hm4, hmc4, hrb4, -, -, hb4⟩
      have HM4 : Hid (qs.length = m4) := hm4
      have hrq4 := hrq3.below (Nat.le_refl _) hb4
      have hrt4 := hrt3.below (Nat.le_refl _) hb4
      have hB4 := hB3.trans (hb4.mono hB3.size)
      clear hm4 hrP hrq3 hrt3 hb4 hB3
      have hrf := rframe_any vo2 ca2 N qs w4 HQ.out (by omega) hqr hnil2 hrq4
      rw [HFL.out] at hrf
      go_wp2_with fail
      refine hrf.mono ?_
      rintro e w5 ⟨v5, rfl, hown5, hb5⟩
      obtain ⟨vo5, ca5, rfl, hca5, hru5, -⟩ := owns_form hown5
      have hrq5 := hrq4.below (Nat.le_refl _) hb5
      have hrt5 := hrt4.below (Nat.le_refl _) hb5
      have hrb5 := hrb4.below (Nat.le_refl _) hb5
      have hB5 := hB4.trans (hb5.mono hB4.size)
      clear hrf hown5 hrq4 hrt4 hrb4 hb5 hB4
      have hsm := rsame_n _ _ _ _ ca3 ca5 (frm qs) (frm qs) w5 HFL.out HFL.out (by omega) (by omega) hrt5 hru5
      rw [decide_eq_true rfl] at hsm
      go_wp2_with fail
      refine hsm.mono ?_
      rintro e w6 ⟨rfl, hb6⟩
      have hc1 := conv_reads (cap := ca4) HM4.out (hrb5.below (Nat.le_refl _) hb6)
      have hc2 := conv_reads (cap := ca2) HQ.out (hrq5.below (Nat.le_refl _) hb6)
      have hB6 := hB5.trans (hb6.mono hB5.size)
      clear hsm hrq5 hrt5 hrb5 hru5 hb6 hB5 HJ
      go_wp2_with fail
      refine (flag_any _).mono ?_
      rintro e w7 ⟨v7, rfl, hown7, hb7⟩
      obtain ⟨vo7, ca7, rfl, hca7, hra7, -⟩ := owns_form hown7
      have hB7 := hB6.trans (hb7.mono hB6.size)
      clear hown7 hb7 hB6 hc1 hc2
      go_wp2_with fail
      refine (rflag_any _).mono ?_
      rintro e w8 ⟨v8, rfl, hown8, hb8⟩
      obtain ⟨vo8, ca8, rfl, hca8, hrb8, -⟩ := owns_form hown8
      have hra8 := hra7.below (Nat.le_refl _) hb8
      have hB8 := hB7.trans (hb8.mono hB7.size)
      have hsm := rsame_n vo7 vo8 8 8 ca7 ca8 flg flg w8 rfl rfl (by omega) (by omega) hra8 hrb8
      rw [decide_eq_true rfl] at hsm
      clear hown8 hb8 hB7 hra7 hra8 hrb8
      go_wp2_with fail
      refine hsm.mono ?_
      rintro e w9 ⟨rfl, hb9⟩
      go_wp2
      go_ret
      exact ⟨rfl, hB8.trans (hb9.mono hB8.size)⟩
end Go.Proofs.Ytfjfnfofbhikdaa.Tape
