/- The walk of the law TapeTurns: it returns true and writes nothing that was there. -/
import Derived.Test.YtpneddlfejjdeaaTape5
namespace Go.Proofs.Ytpneddlfejjdeaa.Tape
open Go.ChangeShapes Go.WideShapes Go.ChangeAt Go.RowKit

set_option maxRecDepth 100000 in
set_option maxHeartbeats 4000000 in
theorem turns_walk (ao bo : Option Addr) (cap cap2 : Nat) (xs ys : List Int) (c : Int) (w : World) (hr : Reads w ao (xs.map (.int .u8))) (hx : ∀ x ∈ xs, 0 ≤ x ∧ x ≤ 255) (hs : Reads w bo (ys.map (.int .u8))) (hy : ∀ x ∈ ys, 0 ≤ x ∧ x ≤ 255) (wc : (Lit.int .u8 c).wf = true) :
    Calls Try.prog 10 #[.slice ao xs.length cap, .slice bo ys.length cap2, .int .u8 c] w fun e w' => e = .returned (.bool true) ∧ Below w.heap.size w w' := by
  obtain ⟨c0, c1⟩ := bounds_u8 wc
  by_cases hlen : 200 < xs.length ∨ 200 < ys.length
  · rcases hlen with hlen | hlen
    · go_enter Try.func10, Try.ntmps10
      go_wp2_with fail
      refine (awake_any _).mono ?_
      rintro e w1 ⟨rfl, hb1⟩
      go_wp2_with fail
      refine (awake_any _).mono ?_
      rintro e w2 ⟨rfl, hb2⟩
      go_wp2
      go_ret
      exact ⟨rfl, hb1.trans (hb2.mono hb1.size)⟩
    · by_cases hx200 : 200 < xs.length
      all_goals
        go_enter Try.func10, Try.ntmps10
        go_wp2_with fail
        refine (awake_any _).mono ?_
        rintro e w1 ⟨rfl, hb1⟩
        go_wp2_with fail
        refine (awake_any _).mono ?_
        rintro e w2 ⟨rfl, hb2⟩
        go_wp2
        go_ret
        exact ⟨rfl, hb1.trans (hb2.mono hb1.size)⟩
  · have hl : xs.length ≤ 200 := by omega
    have hl2 : ys.length ≤ 200 := by omega
    clear hlen
    go_enter Try.func10, Try.ntmps10
    go_wp2_with fail
    refine (awake_any _).mono ?_
    rintro e w1 ⟨rfl, hb1⟩
    have hr1 := hr.below (Nat.le_refl _) hb1
    have hs1 := hs.below (Nat.le_refl _) hb1
    go_wp2_with fail
    refine (rbits_any _ _ _ _ (by omega) hx hr1).mono ?_
    rintro e w2 ⟨v, rfl, hown, hb2⟩
    have hs2 := hs1.below (Nat.le_refl _) hb2
    have hB2 := hb1.trans (hb2.mono hb1.size)
    go_wp2_with fail
    refine (rbits_any _ _ _ _ (by omega) hy hs2).mono ?_
    rintro e w3 ⟨v2, rfl, hown2, hb3⟩
    have hB3 := hB2.trans (hb3.mono hB2.size)
    have hr3 := (hr1.below (Nat.le_refl _) hb2).below (Nat.le_refl _) hb3
    clear hr hr1 hs hs1 hs2 hy
    obtain ⟨vo, ca, rfl, hca, hra, -⟩ := owns_form hown
    obtain ⟨vo2, cb, rfl, hcb, hrb, -⟩ := owns_form hown2
    have hra := hra.below (Nat.le_refl _) hb3
    obtain ⟨bs, hbs⟩ : ∃ bs, bs = bits xs := ⟨_, rfl⟩
    obtain ⟨ds, hds⟩ : ∃ bs, bs = bits ys := ⟨_, rfl⟩
    have hbl := bits_len xs
    have hdl := bits_len ys
    rw [← hbs] at hra hbl
    have HBS : Hid (bs = bits xs) := hbs
    rw [← hds] at hrb hdl
    obtain ⟨M, hM⟩ : ∃ M, 8 * xs.length = M := ⟨_, rfl⟩
    obtain ⟨N, hN⟩ : ∃ N, 8 * ys.length = N := ⟨_, rfl⟩
    rw [hM] at hbl hca ⊢
    rw [hN] at hdl hcb ⊢
    have hM' : M ≤ 1600 := by omega
    have hN' : N ≤ 1600 := by omega
    have HB : Hid (bs.length = M) := hbl
    clear hown hown2 hM hN hbs hds hbl hb1 hb2 hb3 hB2
    obtain ⟨H, hH, hHN⟩ := cut_at N c
    obtain ⟨cs, hcs⟩ : ∃ cs, cs = ds.take H := ⟨_, rfl⟩
    have HC : Hid (cs.length = H) := by show cs.length = H; rw [hcs, List.length_take]; omega
    have hrc := hrb.take H
    rw [← List.map_take, ← hcs] at hrc
    clear hcs hrb hdl
    go_wp2_with fail
    refine (turn_any _ _ _ _ _ _ bs cs _ HB.out HC.out (by omega) (by omega) hra hrc).mono ?_
    rintro e w4 ⟨v3, rfl, hown4, hb4⟩
    obtain ⟨vo3, cc, rfl, hcc, hru, -⟩ := owns_form hown4
    have hra4 := hra.below (Nat.le_refl _) hb4
    have hrc4 := hrc.below (Nat.le_refl _) hb4
    have hr4 := hr3.below (Nat.le_refl _) hb4
    have hB4 := hB3.trans (hb4.mono hB3.size)
    clear hra hrc hr3 hown4 hb4 hB3 hH
    go_wp2_with fail
    go_loop [10] (fun i => ∃ k : Nat, k ≤ M ∧ i = .int .i64 k) (fun i => M - (intOf i).toNat)
    case atStart => exact ⟨0, by omega, rfl⟩
    case round =>
      obtain ⟨k, hk, rfl⟩ := hrel
      by_cases hlt : k < M
      · have hkb : k < bs.length := by have := HB.out; omega
        have hku : k < (turn bs cs).length := by rw [turn_len]; exact hkb
        obtain ⟨g1, o1, rfl, hct⟩ := hra4.bool k hkb
        obtain ⟨g3, o3, rfl, hcu⟩ := hru.bool k hku
        rw [turn_get bs cs k hkb] at hcu
        obtain ⟨b, hb⟩ : ∃ b, bs[k] = b := ⟨_, rfl⟩
        rw [hb] at hct
        rw [show bs.getD k false = b from by simp [List.getD, hkb, hb]] at hcu
        clear hb
        by_cases hkH : k < H
        · have hkc : k < cs.length := by have := HC.out; omega
          obtain ⟨g2, o2, rfl, hcm⟩ := hrc4.bool k hkc
          obtain ⟨t, ht⟩ : ∃ b, cs[k] = b := ⟨_, rfl⟩
          rw [ht] at hcm
          rw [show cs.getD k false = t from by simp [List.getD, hkc, ht]] at hcu
          clear ht
          cases b <;> cases t
          all_goals
            simp only [Bool.xor_false, Bool.xor_true, Bool.not_true, Bool.not_false] at hcu
            go_wp2
            go_round
            case rel => exact ⟨k + 1, by omega, by go_num⟩
            case measure => simp [intOf]; omega
        · have hdH : decide ((k : Int) < (H : Int)) = false := by simp; omega
          rw [show cs.getD k false = false from by have := HC.out; simp [List.getD, List.getElem?_eq_none (show cs.length ≤ k by omega)]] at hcu
          cases b
          all_goals
            simp only [Bool.xor_false] at hcu
            go_wp2
            go_round
            case rel => exact ⟨k + 1, by omega, by go_num⟩
            case measure => simp [intOf]; omega
      · have HU : Hid ((turn bs cs).length = M) := by show (turn bs cs).length = M; rw [turn_len]; exact HB.out
        go_wp2_with fail
        refine (turn_any _ _ _ _ _ _ (turn bs cs) cs _ HU.out HC.out (by omega) (by omega) hru hrc4).mono ?_
        rintro e w5 ⟨v5, rfl, hown5, hb5⟩
        rw [turn_turn] at hown5
        obtain ⟨vo5, cd, rfl, hcd, hrv, -⟩ := owns_form hown5
        have hra5 := hra4.below (Nat.le_refl _) hb5
        have hr5 := hr4.below (Nat.le_refl _) hb5
        have hB5 := hB4.trans (hb5.mono hB4.size)
        clear hown5 hra4 hrc4 hr4 hru
        go_wp2_with fail
        refine (same_n _ _ _ _ _ _ bs bs _ HB.out HB.out (by omega) (by omega) hrv hra5).mono ?_
        rintro e w6 ⟨rfl, q, rfl⟩
        have hdd : decide (bs = bs) = true := by simp
        have hra6 := hra5.drewN q
        have hr6 := hr5.drewN q
        have hB6 := below_drewN hB5 q
        clear hra5 hr5 hrv hb5
        go_wp2_with fail
        refine (rbits_any _ _ _ _ (by omega) hx hr6).mono ?_
        rintro e w7 ⟨v7, rfl, hown7, hb7⟩
        rw [← HBS.out] at hown7
        obtain ⟨vo7, ce, rfl, hce, hrw, -⟩ := owns_form hown7
        have hra7 := hra6.below (Nat.le_refl _) hb7
        have hB7 := hB6.trans (hb7.mono hB6.size)
        clear hown7 hra6 hr6
        go_wp2_with fail
        refine (rsame_n _ _ _ _ _ _ bs bs _ HB.out (by have := bits_len xs; rw [← HBS.out] at this; exact this) (by omega) (by omega) hra7 hrw).mono ?_
        rintro e w8 ⟨rfl, hb8⟩
        go_wp2
        go_ret
        exact ⟨by simp, hB7.trans (hb8.mono hB7.size)⟩
end Go.Proofs.Ytpneddlfejjdeaa.Tape
