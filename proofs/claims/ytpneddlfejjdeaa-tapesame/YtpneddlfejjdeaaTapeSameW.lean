/- The walk of the law TapeSame: it returns true and writes nothing that was there. -/
import Derived.Test.YtpneddlfejjdeaaTape4
namespace Go.Proofs.Ytpneddlfejjdeaa.Tape
open Go.ChangeShapes Go.WideShapes Go.ChangeAt Go.RowKit

set_option maxRecDepth 100000 in
set_option maxHeartbeats 4000000 in
theorem same_walk (ao bo : Option Addr) (cap cap2 : Nat) (xs ys : List Int) (c : Int) (w : World) (hr : Reads w ao (xs.map (.int .u8))) (hx : ∀ x ∈ xs, 0 ≤ x ∧ x ≤ 255) (hs : Reads w bo (ys.map (.int .u8))) (hy : ∀ x ∈ ys, 0 ≤ x ∧ x ≤ 255) (wc : (Lit.int .u8 c).wf = true) :
    Calls Try.prog 11 #[.slice ao xs.length cap, .slice bo ys.length cap2, .int .u8 c] w fun e w' => e = .returned (.bool true) ∧ Below w.heap.size w w' := by
  obtain ⟨c0, c1⟩ := bounds_u8 wc
  by_cases hlen : 100 < xs.length ∨ 100 < ys.length
  · rcases hlen with hlen | hlen
    · go_enter Try.func11, Try.ntmps11
      go_wp2_with fail
      refine (awake_any _).mono ?_
      rintro e w1 ⟨rfl, hb1⟩
      go_wp2_with fail
      refine (awake_any _).mono ?_
      rintro e w2 ⟨rfl, hb2⟩
      go_wp2
      go_ret
      exact ⟨rfl, hb1.trans (hb2.mono hb1.size)⟩
    · by_cases hx100 : 100 < xs.length
      all_goals
        go_enter Try.func11, Try.ntmps11
        go_wp2_with fail
        refine (awake_any _).mono ?_
        rintro e w1 ⟨rfl, hb1⟩
        go_wp2_with fail
        refine (awake_any _).mono ?_
        rintro e w2 ⟨rfl, hb2⟩
        go_wp2
        go_ret
        exact ⟨rfl, hb1.trans (hb2.mono hb1.size)⟩
  · have hl : xs.length ≤ 100 := by omega
    have hl2 : ys.length ≤ 100 := by omega
    clear hlen
    go_enter Try.func11, Try.ntmps11
    go_wp2_with fail
    refine (awake_any _).mono ?_
    rintro e w1 ⟨rfl, hb1⟩
    have hr1 := hr.below (Nat.le_refl _) hb1
    have hs1 := hs.below (Nat.le_refl _) hb1
    go_wp2_with fail
    refine (rbits_any _ _ _ _ (by omega) hx hr1).mono ?_
    rintro e w2 ⟨v, rfl, hown, hb2⟩
    have hs2 := hs1.below (Nat.le_refl _) hb2
    have hB2 := hb1.trans (hb2.mono hb1.size)
    go_wp2_with fail
    refine (rbits_any _ _ _ _ (by omega) hy hs2).mono ?_
    rintro e w3 ⟨v2, rfl, hown2, hb3⟩
    have hB3 := hB2.trans (hb3.mono hB2.size)
    clear hr hr1 hs hs1 hs2 hx hy
    obtain ⟨vo, ca, rfl, hca, hra, -⟩ := owns_form hown
    obtain ⟨vo2, cb, rfl, hcb, hrb, -⟩ := owns_form hown2
    have hra := hra.below (Nat.le_refl _) hb3
    obtain ⟨bs, hbs⟩ : ∃ bs, bs = bits xs := ⟨_, rfl⟩
    obtain ⟨ds, hds⟩ : ∃ bs, bs = bits ys := ⟨_, rfl⟩
    have hbl := bits_len xs
    have hdl := bits_len ys
    rw [← hbs] at hra hbl
    rw [← hds] at hrb hdl
    obtain ⟨M, hM⟩ : ∃ M, 8 * xs.length = M := ⟨_, rfl⟩
    obtain ⟨N, hN⟩ : ∃ N, 8 * ys.length = N := ⟨_, rfl⟩
    rw [hM] at hbl hca ⊢
    rw [hN] at hdl hcb ⊢
    have hM' : M ≤ 800 := by omega
    have hN' : N ≤ 800 := by omega
    have HB : Hid (bs.length = M) := hbl
    clear hown hown2 hM hN hbs hds hbl hb1 hb2 hb3 hB2
    obtain ⟨H, hH, hHN⟩ := cut_at N c
    obtain ⟨cs, hcs⟩ : ∃ cs, cs = ds.take H := ⟨_, rfl⟩
    have HC : Hid (cs.length = H) := by show cs.length = H; rw [hcs, List.length_take]; omega
    have hrc := hrb.take H
    rw [← List.map_take, ← hcs] at hrc
    clear hcs hrb hdl
    go_wp2_with fail
    clear hH
    go_loop [9, 10] (fun v i => ∃ k : Nat, k ≤ H ∧ k ≤ 8 ∧ i = .int .i64 k ∧ v = .int .u8 (low cs k)) (fun _ i => 8 - (intOf i).toNat)
    case atStart => exact ⟨0, by omega, by omega, rfl, rfl⟩
    case round =>
      obtain ⟨k, hk, hk8, rfl, rfl⟩ := hrel
      have hn := low_nonneg cs k
      by_cases hlt : k < H
      · have hkc : k < cs.length := by have := HC.out; omega
        by_cases h8 : k < 8
        · obtain ⟨g, off, rfl, hc⟩ := hrc.bool k hkc
          obtain ⟨b, hb⟩ : ∃ b, cs[k] = b := ⟨_, rfl⟩
          rw [hb] at hc
          have HV : Hid (cs[k] = b) := hb
          clear hb
          cases b
          · go_wp2
            go_round
            case rel => exact ⟨k + 1, by omega, by omega, by go_num, by rw [low_false cs k hkc HV.out]⟩
            case measure => simp [intOf]; omega
          · go_wp2
            have hp := pow_lt k h8
            go_round
            case rel => exact ⟨k + 1, by omega, by omega, by go_num, by rw [low_true cs k hkc HV.out]; congr 1; omega⟩
            case measure => simp [intOf]; omega
        · have hd8 : decide ((k : Int) < 8) = false := by simp; omega
          obtain rfl : k = min 8 H := by omega
          go_wp2_with fail
          refine (same_n _ _ _ _ _ _ bs cs _ HB.out HC.out (by omega) (by omega) hra hrc).mono ?_
          rintro e w4 ⟨rfl, q1, rfl⟩
          go_wp2_with fail
          refine (rsame_n _ _ _ _ _ _ bs cs _ HB.out HC.out (by omega) (by omega) (hra.drewN q1) (hrc.drewN q1)).mono ?_
          rintro e w5 ⟨rfl, hb5⟩
          have hB5 := (below_drewN hB3 q1).trans (hb5.mono hB3.size)
          have hra5 := (hra.drewN q1).below (Nat.le_refl _) hb5
          have hrc5 := (hrc.drewN q1).below (Nat.le_refl _) hb5
          go_wp2_with (first | (go_at_call 31; refine (same_n _ _ _ _ _ _ bs bs _ HB.out HB.out (by omega) (by omega) hra5 hra5).mono ?_; rintro e w6 ⟨rfl, q2, rfl⟩) | (go_at_call 32; refine (low_n _ _ _ cs _ HC.out (by omega) (hrc5.drewN _)).mono ?_; rintro e w7 ⟨rfl, hw7⟩; obtain rfl := hw7.symm; clear hw7))
          go_ret
          exact ⟨by simp, below_drewN hB5 _⟩
      · have hdH : decide ((k : Int) < (H : Int)) = false := by simp; omega
        obtain rfl : k = min 8 H := by omega
        go_wp2_with fail
        refine (same_n _ _ _ _ _ _ bs cs _ HB.out HC.out (by omega) (by omega) hra hrc).mono ?_
        rintro e w4 ⟨rfl, q1, rfl⟩
        go_wp2_with fail
        refine (rsame_n _ _ _ _ _ _ bs cs _ HB.out HC.out (by omega) (by omega) (hra.drewN q1) (hrc.drewN q1)).mono ?_
        rintro e w5 ⟨rfl, hb5⟩
        have hB5 := (below_drewN hB3 q1).trans (hb5.mono hB3.size)
        have hra5 := (hra.drewN q1).below (Nat.le_refl _) hb5
        have hrc5 := (hrc.drewN q1).below (Nat.le_refl _) hb5
        go_wp2_with (first | (go_at_call 31; refine (same_n _ _ _ _ _ _ bs bs _ HB.out HB.out (by omega) (by omega) hra5 hra5).mono ?_; rintro e w6 ⟨rfl, q2, rfl⟩) | (go_at_call 32; refine (low_n _ _ _ cs _ HC.out (by omega) (hrc5.drewN _)).mono ?_; rintro e w7 ⟨rfl, hw7⟩; obtain rfl := hw7.symm; clear hw7))
        go_ret
        exact ⟨by simp, below_drewN hB5 _⟩
end Go.Proofs.Ytpneddlfejjdeaa.Tape
