/- The walks of the laws RestSteps and RestJudges: they return true and write nothing that was there. -/
import Derived.Test.YtmmdefphgddcdaaRest4
namespace Go.Proofs.Ytmmdefphgddcdaa.Tape
open Go.ChangeShapes Go.WideShapes Go.ChangeAt Go.RowKit

theorem cut_in (n : Nat) (c : Int) : ∃ H : Nat, c % (n + 1) = H ∧ H ≤ n := by
  have h1 := Int.emod_lt_of_pos c (show (0 : Int) < n + 1 by omega)
  have h2 := Int.emod_nonneg c (show (n : Int) + 1 ≠ 0 by omega)
  exact ⟨(c % (n + 1)).toNat, by omega, by omega⟩

set_option maxRecDepth 100000 in
set_option maxHeartbeats 1000000 in
theorem steps_walk (ao : Option Addr) (cap : Nat) (xs : List Int) (c : Int) (w : World) (hr : Reads w ao (xs.map (.int .u8))) (hx : ∀ x ∈ xs, 0 ≤ x ∧ x ≤ 255) (wc : (Lit.int .u16 c).wf = true) :
    Calls Try.prog 6 #[.slice ao xs.length cap, .int .u16 c] w fun e w' => e = .returned (.bool true) ∧ Below w.heap.size w w' := by
  obtain ⟨c0, c1⟩ := bounds_u16 wc
  by_cases hlen : 200 < xs.length
  · go_enter Try.func6, Try.ntmps6
    go_wp2_with fail
    refine (awake3_any _).mono ?_
    rintro e w1 ⟨rfl, hb1⟩
    go_wp2_with fail
    refine (awake3_any _).mono ?_
    rintro e w2 ⟨rfl, hb2⟩
    go_wp2
    go_ret
    exact ⟨rfl, hb1.trans (hb2.mono hb1.size)⟩
  · go_enter Try.func6, Try.ntmps6
    go_wp2_with fail
    refine (awake3_any _).mono ?_
    rintro e w1 ⟨rfl, hb1⟩
    have hr1 := hr.below (Nat.le_refl _) hb1
    go_wp2_with fail
    refine (rbits_any _ _ _ _ (by omega) hx hr1).mono ?_
    rintro e w2 ⟨v, rfl, hown, hb2⟩
    have hB2 := hb1.trans (hb2.mono hb1.size)
    obtain ⟨vo, ca, rfl, hca, hra, -⟩ := owns_form hown
    obtain ⟨bs, hbs⟩ : ∃ bs, bs = bits xs := ⟨_, rfl⟩
    have hbl := bits_len xs
    rw [← hbs] at hra hbl
    obtain ⟨M, hM⟩ : ∃ M, 8 * xs.length = M := ⟨_, rfl⟩
    rw [hM] at hbl hca ⊢
    have hM' : M ≤ 1600 := by omega
    have HB : Hid (bs.length = M) := hbl
    clear hown hM hbs hbl hr1 hr hb1 hb2 hx
    obtain ⟨H, hH, hHM⟩ := cut_in M c
    have hrt := hra.take H
    rw [← List.map_take] at hrt
    have hlt : (bs.take H).length = H := by rw [List.length_take]; have := HB.out; omega
    have HLT : Hid ((bs.take H).length = H) := hlt
    clear hlt
    obtain ⟨r0, hr0⟩ : ∃ r : BitVec 16, r = 0xffff#16 := ⟨_, rfl⟩
    have hcr := crc_any vo ca H (bs.take H) w2 HLT.out (by omega) hrt
    have hcw := crc_any vo ca M bs w2 HB.out (by omega) hra
    rw [← hr0] at hcr hcw
    clear hr0
    go_wp2_with fail
    refine hcr.mono ?_
    rintro e w3 ⟨rfl, rfl⟩
    clear hcr
    go_wp2_with fail
    go_loop [7, 8] (fun r i => ∃ k : Nat, k ≤ M ∧ i = .int .i64 k ∧ r = .int .u16 (num (crc r0 (bs.take k)))) (fun _ i => M - (intOf i).toNat)
    case atStart => exact ⟨H, hHM, rfl, rfl⟩
    case round =>
      clear hH
      obtain ⟨k, hk, rfl, rfl⟩ := hrel
      by_cases hlt : k < M
      · have hkb : k < bs.length := by have := HB.out; omega
        obtain ⟨g, off, rfl, hc⟩ := hra.bool k hkb
        have HT : Hid (crc r0 (bs.take (k + 1)) = stp (crc r0 (bs.take k)) bs[k]) := crc_take r0 bs k hkb
        generalize bs[k] = b at hc HT
        go_wp2_with (go_at_call 17; refine (step_any _ _ _).mono ?_; rintro e w' ⟨rfl, rfl⟩)
        go_round
        case rel => exact ⟨k + 1, by omega, by go_num, by rw [HT.out]⟩
        case measure => simp [intOf]; omega
      · have HE : bs.take k = bs := List.take_of_length_le (by have := HB.out; omega)
        rw [HE]
        clear HE
        go_wp2_with (go_at_call 13; refine hcw.mono ?_; rintro e w4 ⟨rfl, rfl⟩)
        go_ret
        exact ⟨ret_bool (by simp), hB2⟩

set_option maxRecDepth 100000 in
set_option maxHeartbeats 1000000 in
theorem judges_walk (ao : Option Addr) (cap : Nat) (xs : List Int) (w : World) (hr : Reads w ao (xs.map (.int .u8))) (hx : ∀ x ∈ xs, 0 ≤ x ∧ x ≤ 255) (hcap : xs.length ≤ cap) :
    Calls Try.prog 4 #[.slice ao xs.length cap] w fun e w' => e = .returned (.bool true) ∧ Below w.heap.size w w' := by
  by_cases hlen : 300 < xs.length
  · go_enter Try.func4, Try.ntmps4
    go_wp2_with fail
    refine (awake3_any _).mono ?_
    rintro e w1 ⟨rfl, hb1⟩
    go_wp2_with fail
    refine (awake3_any _).mono ?_
    rintro e w2 ⟨rfl, hb2⟩
    go_wp2
    go_ret
    exact ⟨rfl, hb1.trans (hb2.mono hb1.size)⟩
  · go_enter Try.func4, Try.ntmps4
    go_wp2_with fail
    refine (awake3_any _).mono ?_
    rintro e w1 ⟨rfl, hb1⟩
    have hr1 := hr.below (Nat.le_refl _) hb1
    go_wp2_with fail
    refine (right_any _ _ _ _ _ rfl (by omega) hx hr1).mono ?_
    rintro e w2 ⟨rfl, hb2⟩
    have hr2 := hr1.below (Nat.le_refl _) hb2
    have hB2 := hb1.trans (hb2.mono hb1.size)
    have hrr := rright_any _ _ _ _ _ rfl (by omega) hx hcap hr2
    generalize decide (2 ≤ xs.length ∧ left xs = good) = b at hrr ⊢
    go_wp2_with fail
    refine hrr.mono ?_
    rintro e w3 ⟨rfl, hb3⟩
    go_wp2
    go_ret
    exact ⟨ret_bool (by simp), hB2.trans (hb3.mono hB2.size)⟩
end Go.Proofs.Ytmmdefphgddcdaa.Tape
