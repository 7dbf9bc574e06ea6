/- The walks of the laws StuffGrows, StuffPuts, StuffTakes, StuffApart: they return true and write nothing that was there. -/
import Derived.Test.YtokjieejnahfmaaStuff4
namespace Go.Proofs.Ytokjieejnahfmaa.Tape
open Go.ChangeShapes Go.WideShapes Go.ChangeAt Go.RowKit

set_option maxRecDepth 100000 in
set_option maxHeartbeats 1000000 in
theorem grows_walk (ao : Option Addr) (cap : Nat) (xs : List Int) (c : Int) (w : World) (hr : Reads w ao (xs.map (.int .u8))) (hx : ∀ x ∈ xs, 0 ≤ x ∧ x ≤ 255) (wc : (Lit.int .u8 c).wf = true) :
    Calls Try.prog 5 #[.slice ao xs.length cap, .int .u8 c] w fun e w' => e = .returned (.bool true) ∧ Below w.heap.size w w' := by
  obtain ⟨c0, c1⟩ := bounds_u8 wc
  by_cases hlen : 200 < xs.length
  · go_enter Try.func5, Try.ntmps5
    go_wp2_with fail
    refine (awake4_any _).mono ?_
    rintro e w1 ⟨rfl, hb1⟩
    go_wp2_with fail
    refine (awake4_any _).mono ?_
    rintro e w2 ⟨rfl, hb2⟩
    go_wp2
    go_ret
    exact ⟨rfl, hb1.trans (hb2.mono hb1.size)⟩
  · go_enter Try.func5, Try.ntmps5
    go_wp2_with fail
    refine (awake4_any _).mono ?_
    rintro e w1 ⟨rfl, hb1⟩
    have hr1 := hr.below (Nat.le_refl _) hb1
    go_wp2_with fail
    refine (bits4_any _ _ _ _ _ _ rfl (by omega) hx c0 c1 hr1).mono ?_
    rintro e w2 ⟨vo, H, ca, rfl, hH, hbl, hrt, hb2⟩
    have hB2 := hb1.trans (hb2.mono hb1.size)
    have hH' : H ≤ 1600 := by omega
    generalize (bits xs).take H = bs at hbl hrt
    have hsa := size_any vo H ca bs w2 hbl (by omega) hrt
    have hsz := sz_le bs 0 (by omega)
    rw [hbl] at hsz
    generalize szFrom bs 0 = S at hsa hsz
    clear hH hbl hr hr1 hx hb1 hb2 hrt
    have b1 : decide ((S : Int) ≤ (H : Int) / 5) = true := by rw [decide_eq_true_iff]; omega
    have b2 : (S : Int) ≤ (H : Int) / 5 := by omega
    go_wp2_with fail
    refine hsa.mono ?_
    rintro e w3 ⟨rfl, hw3⟩
    obtain rfl := hw3.symm
    clear hw3
    go_wp2_with fail
    refine hsa.mono ?_
    rintro e w3 ⟨rfl, hw3⟩
    obtain rfl := hw3.symm
    clear hw3
    go_wp2
    go_ret
    exact ⟨ret_bool (by simp), hB2⟩

theorem tk_of_put (bs : List Bool) : tk (put bs) 0 [] = (bs, 0) := by rw [show put bs = putFrom bs 0 from rfl, tk_put bs 0 [] (by omega)]; simp

set_option maxRecDepth 100000 in
set_option maxHeartbeats 2000000 in
theorem puts_walk (ao : Option Addr) (cap : Nat) (xs : List Int) (c : Int) (w : World) (hr : Reads w ao (xs.map (.int .u8))) (hx : ∀ x ∈ xs, 0 ≤ x ∧ x ≤ 255) (wc : (Lit.int .u8 c).wf = true) :
    Calls Try.prog 3 #[.slice ao xs.length cap, .int .u8 c] w fun e w' => e = .returned (.bool true) ∧ Below w.heap.size w w' := by
  obtain ⟨c0, c1⟩ := bounds_u8 wc
  by_cases hlen : 200 < xs.length
  · go_enter Try.func3, Try.ntmps3
    go_wp2_with fail
    refine (awake4_any _).mono ?_
    rintro e w1 ⟨rfl, hb1⟩
    go_wp2_with fail
    refine (awake4_any _).mono ?_
    rintro e w2 ⟨rfl, hb2⟩
    go_wp2
    go_ret
    exact ⟨rfl, hb1.trans (hb2.mono hb1.size)⟩
  · go_enter Try.func3, Try.ntmps3
    go_wp2_with fail
    refine (awake4_any _).mono ?_
    rintro e w1 ⟨rfl, hb1⟩
    have hr1 := hr.below (Nat.le_refl _) hb1
    go_wp2_with fail
    refine (bits4_any _ _ _ _ _ _ rfl (by omega) hx c0 c1 hr1).mono ?_
    rintro e w2 ⟨vo, H, ca, rfl, hH, hbl, hrt, hb2⟩
    have hB2 := hb1.trans (hb2.mono hb1.size)
    have hH' : H ≤ 1600 := by omega
    generalize (bits xs).take H = bs at hbl hrt
    have HB : Hid (bs.length = H) := hbl
    have hpl := put_len bs 0
    have hsz := sz_le bs 0 (by omega)
    have htk : Hid (tk (put bs) 0 [] = (bs, 0)) := tk_of_put bs
    have hru : longest (put bs) ≤ 5 := (put_runs bs 0 (by omega)).2
    change (put bs).length = _ at hpl
    rw [hbl] at hpl hsz
    obtain ⟨S, hS⟩ : ∃ S, S = szFrom bs 0 := ⟨_, rfl⟩
    have HSZ : Hid (S = szFrom bs 0) := hS
    rw [← hS] at hsz hpl
    clear hH hbl hr hr1 hx hb1 hb2 hS
    go_wp2_with fail
    refine (put_any _ _ _ _ _ HB.out (by omega) hrt).mono ?_
    rintro e w3 ⟨v3, rfl, hown3, hb3⟩
    obtain ⟨us, hus⟩ : ∃ us, us = put bs := ⟨_, rfl⟩
    have HU : Hid (us = put bs) := hus
    rw [← hus] at hown3 hpl hru
    obtain ⟨M, hM⟩ : ∃ M, us.length = M := ⟨_, rfl⟩
    have HM : Hid (us.length = M) := hM
    rw [hM] at hown3 hpl
    have hMi : (M : Int) - (H : Int) = (S : Int) := by omega
    have hM' : M ≤ 4000 := by omega
    obtain ⟨vo3, ca3, rfl, -, hru3, -⟩ := owns_form hown3
    have hrt3 := hrt.below (Nat.le_refl _) hb3
    have hB3 := hB2.trans (hb3.mono hB2.size)
    clear hown3 hrt hb3 hB2 hus hM hpl hsz
    go_wp2_with fail
    refine (take_any _ _ _ us (bs, 0) _ HM.out (by rw [HU.out]; exact htk.out) (by omega) hru3).mono ?_
    rintro e w4 ⟨v4, rfl, hown4, hb4⟩
    have hown4' : w4.ownsRow w3.heap.size 4 1 v4 H (bs.map .bool) := by have := hown4; rw [HB.out] at this; exact this
    obtain ⟨vo4, ca4, rfl, -, hrv4, -⟩ := owns_form hown4'
    have hrt4 := hrt3.below (Nat.le_refl _) hb4
    have hru4 := hru3.below (Nat.le_refl _) hb4
    have hB4 := hB3.trans (hb4.mono hB3.size)
    clear hown4 hown4' hrt3 hru3 hb4 hB3
    go_wp2_with fail
    refine (rput_any _ _ _ _ _ HB.out (by omega) hrt4).mono ?_
    rintro e w5 ⟨v5, rfl, hown5, hb5⟩
    rw [← HU.out, HM.out] at hown5
    obtain ⟨vo5, ca5, rfl, -, hrx5, -⟩ := owns_form hown5
    have hrt5 := hrt4.below (Nat.le_refl _) hb5
    have hru5 := hru4.below (Nat.le_refl _) hb5
    have hrv5 := hrv4.below (Nat.le_refl _) hb5
    have hB5 := hB4.trans (hb5.mono hB4.size)
    clear hown5 hrt4 hru4 hrv4 hb5 hB4
    have hdu : decide (us = us) = true := by simp
    have hdb : decide (bs = bs) = true := by simp
    go_wp2_with fail
    refine (rsame_n _ _ _ _ _ _ us us _ HM.out HM.out (by omega) (by omega) hru5 hrx5).mono ?_
    rintro e w6 ⟨rfl, hb6⟩
    have hrt6 := hrt5.below (Nat.le_refl _) hb6
    have hru6 := hru5.below (Nat.le_refl _) hb6
    have hrv6 := hrv5.below (Nat.le_refl _) hb6
    have hB6 := hB5.trans (hb6.mono hB5.size)
    clear hrx5 hrt5 hru5 hrv5 hb6 hB5
    go_wp2_with fail
    refine (rsame_n _ _ _ _ _ _ bs bs _ HB.out HB.out (by omega) (by omega) hrv6 hrt6).mono ?_
    rintro e w7 ⟨rfl, hb7⟩
    have hrt7 := hrt6.below (Nat.le_refl _) hb7
    have hru7 := hru6.below (Nat.le_refl _) hb7
    have hB7 := hB6.trans (hb7.mono hB6.size)
    clear hrt6 hru6 hrv6 hb7 hB6
    have hrn := run_n vo3 M ca3 us w7 HM.out (by omega) hru7
    generalize longest us = L at hru hrn
    go_wp2_with fail
    refine hrn.mono ?_
    rintro e w8 ⟨rfl, hw8⟩
    obtain rfl := hw8.symm
    clear hw8 hrn
    have hsa := size_any vo H ca bs w7 HB.out (by omega) hrt7
    rw [← HSZ.out] at hsa
    go_wp2_with fail
    refine hsa.mono ?_
    rintro e w8 ⟨rfl, hw8⟩
    obtain rfl := hw8.symm
    clear hw8 hsa
    go_wp2
    go_ret
    exact ⟨ret_bool (by simp), hB7⟩

set_option maxRecDepth 100000 in
set_option maxHeartbeats 2000000 in
theorem takes_walk (ao : Option Addr) (cap : Nat) (xs : List Int) (c : Int) (w : World) (hr : Reads w ao (xs.map (.int .u8))) (hx : ∀ x ∈ xs, 0 ≤ x ∧ x ≤ 255) (wc : (Lit.int .u8 c).wf = true) :
    Calls Try.prog 4 #[.slice ao xs.length cap, .int .u8 c] w fun e w' => e = .returned (.bool true) ∧ Below w.heap.size w w' := by
  obtain ⟨c0, c1⟩ := bounds_u8 wc
  by_cases hlen : 200 < xs.length
  · go_enter Try.func4, Try.ntmps4
    go_wp2_with fail
    refine (awake4_any _).mono ?_
    rintro e w1 ⟨rfl, hb1⟩
    go_wp2_with fail
    refine (awake4_any _).mono ?_
    rintro e w2 ⟨rfl, hb2⟩
    go_wp2
    go_ret
    exact ⟨rfl, hb1.trans (hb2.mono hb1.size)⟩
  · go_enter Try.func4, Try.ntmps4
    go_wp2_with fail
    refine (awake4_any _).mono ?_
    rintro e w1 ⟨rfl, hb1⟩
    have hr1 := hr.below (Nat.le_refl _) hb1
    go_wp2_with fail
    refine (bits4_any _ _ _ _ _ _ rfl (by omega) hx c0 c1 hr1).mono ?_
    rintro e w2 ⟨vo, H, ca, rfl, hH, hbl, hrt, hb2⟩
    have hB2 := hb1.trans (hb2.mono hb1.size)
    have hH' : H ≤ 1600 := by omega
    generalize (bits xs).take H = bs at hbl hrt
    have HB : Hid (bs.length = H) := hbl
    have hkl := tk_len bs 0 []
    have her := tk_err bs 0 []
    obtain ⟨⟨os, E⟩, hP⟩ : ∃ P, tk bs 0 [] = P := ⟨_, rfl⟩
    rw [hP] at hkl her
    have HP : Hid (tk bs 0 [] = (os, E)) := hP
    have hkl' : os.length ≤ H := by rw [hbl] at hkl; simpa using hkl
    have her' : E = 0 ∨ E = 4 ∨ E = 5 := by rcases her with h | ⟨h | h, _⟩ <;> simp at h <;> omega
    obtain ⟨K, hK⟩ : ∃ K, os.length = K := ⟨_, rfl⟩
    have HK : Hid (os.length = K) := hK
    rw [hK] at hkl'
    have hdo : decide (os = os) = true := by simp
    have hdb : decide (bs = bs) = true := by simp
    clear hH hbl hr hr1 hx hb1 hb2 hkl her hP hK
    go_wp2_with fail
    refine (take_any _ _ _ _ _ _ HB.out HP.out (by omega) hrt).mono ?_
    rintro e w3 ⟨v3, rfl, hown3, hb3⟩
    have hown3' : w3.ownsRow w2.heap.size 4 1 v3 K (os.map .bool) := by have := hown3; rw [HK.out] at this; exact this
    obtain ⟨vo3, ca3, rfl, -, hru3, -⟩ := owns_form hown3'
    have hrt3 := hrt.below (Nat.le_refl _) hb3
    have hB3 := hB2.trans (hb3.mono hB2.size)
    clear hown3 hown3' hrt hb3 hB2
    go_wp2_with fail
    refine (rtake_any _ _ _ _ _ _ HB.out HP.out (by omega) hrt3).mono ?_
    rintro e w4 ⟨v4, rfl, hown4, hb4⟩
    have hown4' : w4.ownsRow w3.heap.size 4 1 v4 K (os.map .bool) := by have := hown4; rw [HK.out] at this; exact this
    obtain ⟨vo4, ca4, rfl, -, hrv4, -⟩ := owns_form hown4'
    have hru4 := hru3.below (Nat.le_refl _) hb4
    have hrt4 := hrt3.below (Nat.le_refl _) hb4
    have hB4 := hB3.trans (hb4.mono hB3.size)
    clear hown4 hown4' hrt3 hru3 hb4 hB3
    rcases her' with rfl | her'
    · obtain ⟨m, hm, hm1, -⟩ := put_tk bs 0 [] os (by omega) HP.out
      have HPU : Hid (put os = bs) := by
        show put os = bs
        have := hm1 (by omega)
        rw [show os = m by simpa using hm]
        exact this
      clear hm hm1
      go_wp2_with fail
      refine (rsame_n _ _ _ _ _ _ os os _ HK.out HK.out (by omega) (by omega) hru4 hrv4).mono ?_
      rintro e w5 ⟨rfl, hb5⟩
      have hru5 := hru4.below (Nat.le_refl _) hb5
      have hrt5 := hrt4.below (Nat.le_refl _) hb5
      have hB5 := hB4.trans (hb5.mono hB4.size)
      clear hru4 hrt4 hrv4 hb5 hB4
      go_wp2_with fail
      refine (put_any _ _ _ _ _ HK.out (by omega) hru5).mono ?_
      rintro e w6 ⟨v6, rfl, hown6, hb6⟩
      rw [HPU.out, HB.out] at hown6
      obtain ⟨vo6, ca6, rfl, -, hrx6, -⟩ := owns_form hown6
      have hrt6 := hrt5.below (Nat.le_refl _) hb6
      have hB6 := hB5.trans (hb6.mono hB5.size)
      clear hown6 hru5 hrt5 hb6 hB5
      go_wp2_with fail
      refine (rsame_n _ _ _ _ _ _ bs bs _ HB.out HB.out (by omega) (by omega) hrx6 hrt6).mono ?_
      rintro e w7 ⟨rfl, hb7⟩
      go_wp2
      go_ret
      exact ⟨ret_bool (by simp), hB6.trans (hb7.mono hB6.size)⟩
    · rcases her' with rfl | rfl
      all_goals
        go_wp2_with fail
        refine (rsame_n _ _ _ _ _ _ os os _ HK.out HK.out (by omega) (by omega) hru4 hrv4).mono ?_
        rintro e w5 ⟨rfl, hb5⟩
        go_wp2
        go_ret
        exact ⟨ret_bool (by simp), hB4.trans (hb5.mono hB4.size)⟩

theorem put_same (a b : List Bool) : decide (put a = put b) = decide (a = b) := by
  by_cases h : a = b
  · subst h; simp
  · rw [decide_eq_false h, decide_eq_false (fun e => h (put_inj e))]

set_option maxRecDepth 100000 in
set_option maxHeartbeats 2000000 in
theorem apart_walk (ao bo : Option Addr) (cap cap2 : Nat) (xs ys : List Int) (c : Int) (w : World) (hr : Reads w ao (xs.map (.int .u8))) (hx : ∀ x ∈ xs, 0 ≤ x ∧ x ≤ 255) (hs : Reads w bo (ys.map (.int .u8))) (hy : ∀ x ∈ ys, 0 ≤ x ∧ x ≤ 255) (wc : (Lit.int .u8 c).wf = true) :
    Calls Try.prog 7 #[.slice ao xs.length cap, .slice bo ys.length cap2, .int .u8 c] w fun e w' => e = .returned (.bool true) ∧ Below w.heap.size w w' := by
  obtain ⟨c0, c1⟩ := bounds_u8 wc
  by_cases hlen : 60 < xs.length ∨ 60 < ys.length
  · by_cases hx60 : 60 < xs.length
    · go_enter Try.func7, Try.ntmps7
      go_wp2_with fail
      refine (awake4_any _).mono ?_
      rintro e w1 ⟨rfl, hb1⟩
      go_wp2_with fail
      refine (awake4_any _).mono ?_
      rintro e w2 ⟨rfl, hb2⟩
      go_wp2
      go_ret
      exact ⟨rfl, hb1.trans (hb2.mono hb1.size)⟩
    · have hy60 : 60 < ys.length := by omega
      clear hlen
      go_enter Try.func7, Try.ntmps7
      go_wp2_with fail
      refine (awake4_any _).mono ?_
      rintro e w1 ⟨rfl, hb1⟩
      go_wp2_with fail
      refine (awake4_any _).mono ?_
      rintro e w2 ⟨rfl, hb2⟩
      go_wp2
      go_ret
      exact ⟨rfl, hb1.trans (hb2.mono hb1.size)⟩
  · have hl : xs.length ≤ 60 := by omega
    have hl2 : ys.length ≤ 60 := by omega
    clear hlen
    go_enter Try.func7, Try.ntmps7
    go_wp2_with fail
    refine (awake4_any _).mono ?_
    rintro e w1 ⟨rfl, hb1⟩
    have hr1 := hr.below (Nat.le_refl _) hb1
    have hs1 := hs.below (Nat.le_refl _) hb1
    go_wp2_with fail
    refine (rbits_any _ _ _ _ (by omega) hx hr1).mono ?_
    rintro e w2 ⟨v2, rfl, hown2, hb2⟩
    have hs2 := hs1.below (Nat.le_refl _) hb2
    have hB2 := hb1.trans (hb2.mono hb1.size)
    obtain ⟨vo, ca, rfl, -, hra, -⟩ := owns_form hown2
    have hal : (bits xs).length = 8 * xs.length := bits_len xs
    generalize bits xs = ms at hra hal
    obtain ⟨M, hM⟩ : ∃ M, 8 * xs.length = M := ⟨_, rfl⟩
    rw [hM] at hal ⊢
    have hM' : M ≤ 480 := by omega
    have HA : Hid (ms.length = M) := hal
    clear hown2 hM hal hr hr1 hs hs1 hx hb1 hb2
    go_wp2_with fail
    refine (bits4_any _ _ _ _ _ _ rfl (by omega) hy c0 c1 hs2).mono ?_
    rintro e w3 ⟨bo3, H, cb, rfl, hH, hbl, hrb, hb3⟩
    have hra3 := hra.below (Nat.le_refl _) hb3
    have hB3 := hB2.trans (hb3.mono hB2.size)
    have hH' : H ≤ 480 := by omega
    generalize (bits ys).take H = bs at hbl hrb
    have HB : Hid (bs.length = H) := hbl
    have hpa : (put ms).length ≤ 2 * M := by
      have h1 := put_len ms 0; have h2 := sz_le ms 0 (by omega); have := HA.out; show (putFrom ms 0).length ≤ _; omega
    have hpb : (put bs).length ≤ 2 * H := by
      have h1 := put_len bs 0; have h2 := sz_le bs 0 (by omega); have := HB.out; show (putFrom bs 0).length ≤ _; omega
    have HSM : Hid (decide (put ms = put bs) = decide (ms = bs)) := put_same ms bs
    clear hH hbl hs2 hy hra hb3 hB2
    go_wp2_with fail
    refine (put_any _ _ _ _ _ HA.out (by omega) hra3).mono ?_
    rintro e w4 ⟨v4, rfl, hown4, hb4⟩
    obtain ⟨K, hK⟩ : ∃ K, (put ms).length = K := ⟨_, rfl⟩
    have HK : Hid ((put ms).length = K) := hK
    rw [hK] at hown4 hpa
    obtain ⟨vo4, ca4, rfl, -, hrp4, -⟩ := owns_form hown4
    have hra4 := hra3.below (Nat.le_refl _) hb4
    have hrb4 := hrb.below (Nat.le_refl _) hb4
    have hB4 := hB3.trans (hb4.mono hB3.size)
    clear hown4 hK hra3 hrb hb4 hB3
    go_wp2_with fail
    refine (put_any _ _ _ _ _ HB.out (by omega) hrb4).mono ?_
    rintro e w5 ⟨v5, rfl, hown5, hb5⟩
    obtain ⟨J, hJ⟩ : ∃ J, (put bs).length = J := ⟨_, rfl⟩
    have HJ : Hid ((put bs).length = J) := hJ
    rw [hJ] at hown5 hpb
    obtain ⟨vo5, ca5, rfl, -, hrq5, -⟩ := owns_form hown5
    have hra5 := hra4.below (Nat.le_refl _) hb5
    have hrb5 := hrb4.below (Nat.le_refl _) hb5
    have hrp5 := hrp4.below (Nat.le_refl _) hb5
    have hB5 := hB4.trans (hb5.mono hB4.size)
    clear hown5 hJ hra4 hrb4 hrp4 hb5 hB4
    have hsm := rsame_n vo4 vo5 K J ca4 ca5 (put ms) (put bs) w5 HK.out HJ.out (by omega) (by omega) hrp5 hrq5
    rw [HSM.out] at hsm
    go_wp2_with fail
    refine hsm.mono ?_
    rintro e w6 ⟨rfl, hb6⟩
    have hra6 := hra5.below (Nat.le_refl _) hb6
    have hrb6 := hrb5.below (Nat.le_refl _) hb6
    have hB6 := hB5.trans (hb6.mono hB5.size)
    have hsn := rsame_n vo bo3 M H ca cb ms bs w6 HA.out HB.out (by omega) (by omega) hra6 hrb6
    clear hsm hra5 hrb5 hrp5 hrq5 hb6 hB5
    generalize decide (ms = bs) = d at hsn ⊢
    go_wp2_with fail
    refine hsn.mono ?_
    rintro e w7 ⟨rfl, hb7⟩
    go_wp2
    go_ret
    exact ⟨ret_bool (by simp), hB6.trans (hb7.mono hB6.size)⟩
end Go.Proofs.Ytokjieejnahfmaa.Tape
