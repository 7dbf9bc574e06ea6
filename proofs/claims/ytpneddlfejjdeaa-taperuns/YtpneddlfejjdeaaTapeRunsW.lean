/- The walk of the law TapeRuns: it returns true and writes nothing that was there. -/
import Derived.Test.YtpneddlfejjdeaaTape4
namespace Go.Proofs.Ytpneddlfejjdeaa.Tape
open Go.ChangeShapes Go.WideShapes Go.ChangeAt Go.RowKit

theorem runs_step {cs : List Bool} {k o m j : Nat} {b : Bool} (hk : k < cs.length) (hb : cs[k] = b) (ho : o + (cs.drop k).count true = cs.count true) (hm : max m (longest (cs.drop k)) = longest cs) (hj : onesFrom (cs.drop k) = j) :
    (o + if b then 1 else 0) + (cs.drop (k + 1)).count true = cs.count true ∧ max (max m j) (longest (cs.drop (k + 1))) = longest cs := by
  have hd := drop_cons cs k hk
  rw [hb] at hd
  rw [hd] at ho hm hj
  constructor
  · cases b <;> simp at ho ⊢ <;> omega
  · simp only [longest] at hm; omega

set_option maxRecDepth 100000 in
set_option maxHeartbeats 4000000 in
theorem runs_walk (ao : Option Addr) (cap : Nat) (xs : List Int) (c : Int) (w : World) (hr : Reads w ao (xs.map (.int .u8))) (hx : ∀ x ∈ xs, 0 ≤ x ∧ x ≤ 255) (wc : (Lit.int .u8 c).wf = true) :
    Calls Try.prog 9 #[.slice ao xs.length cap, .int .u8 c] w fun e w' => e = .returned (.bool true) ∧ Below w.heap.size w w' := by
  obtain ⟨c0, c1⟩ := bounds_u8 wc
  by_cases hlen : 200 < xs.length
  · go_enter Try.func9, Try.ntmps9
    go_wp2_with fail
    refine (awake_any _).mono ?_
    rintro e w1 ⟨rfl, hb1⟩
    go_wp2_with fail
    refine (awake_any _).mono ?_
    rintro e w2 ⟨rfl, hb2⟩
    go_wp2
    go_ret
    exact ⟨rfl, hb1.trans (hb2.mono hb1.size)⟩
  · have hl : xs.length ≤ 200 := by omega
    clear hlen
    go_enter Try.func9, Try.ntmps9
    go_wp2_with fail
    refine (awake_any _).mono ?_
    rintro e w1 ⟨rfl, hb1⟩
    have hr1 := hr.below (Nat.le_refl _) hb1
    go_wp2_with fail
    refine (rbits_any _ _ _ _ (by omega) hx hr1).mono ?_
    rintro e w2 ⟨v, rfl, hown, hb2⟩
    have hB2 := hb1.trans (hb2.mono hb1.size)
    clear hr hr1
    obtain ⟨bs, hbs⟩ : ∃ bs, bs = bits xs := ⟨_, rfl⟩
    have hbl := bits_len xs
    rw [← hbs] at hown hbl
    have hN : 8 * xs.length = bs.length := hbl.symm
    rw [hN] at hown
    have hbl' : bs.length ≤ 1600 := by omega
    clear hN hbl hbs
    obtain ⟨H, hH⟩ : ∃ H : Nat, (H : Int) = bs.length - c % (bs.length + 1) := ⟨((bs.length : Int) - c % (bs.length + 1)).toNat, by
      have := Int.emod_lt_of_pos c (show (0 : Int) < bs.length + 1 by omega)
      have := Int.emod_nonneg c (show (bs.length : Int) + 1 ≠ 0 by omega)
      omega⟩
    have hH' : H ≤ bs.length := by
      have := Int.emod_nonneg c (show (bs.length : Int) + 1 ≠ 0 by omega)
      omega
    have hHr : (bs.length : Int) - c % (bs.length + 1) = H := hH.symm
    clear hH
    obtain ⟨vo, cap', rfl, hcap, hread, hform⟩ := owns_form hown
    clear hown
    obtain ⟨cs, hcs⟩ : ∃ cs, cs = bs.take H := ⟨_, rfl⟩
    have hcl : cs.length = H := by rw [hcs, List.length_take]; omega
    have hread := hread.take H
    rw [← List.map_take, ← hcs] at hread
    clear hcs hform
    go_wp2_with fail
    clear hHr
    have HCL : Hid (cs.length = H) := hcl
    have hcl1 : cs.length ≤ H := by omega
    have hcl2 : H ≤ cs.length := by omega
    clear hcl
    go_loop [6, 7, 8] (fun o m i => ∃ k on mo : Nat, k ≤ H ∧ i = .int .i64 k ∧ on ≤ k ∧ mo ≤ H ∧ o = .int .i64 on ∧ m = .int .i64 mo ∧ on + (cs.drop k).count true = cs.count true ∧ max mo (longest (cs.drop k)) = longest cs) (fun _ _ i => H - (intOf i).toNat)
    case atStart => exact ⟨0, 0, 0, by omega, rfl, by omega, by omega, rfl, rfl, by simp, by simp⟩
    case round =>
      obtain ⟨k, o, m, hk, rfl, ho, hm, rfl, rfl, ho', hm'⟩ := hrel
      have HO : Hid (o + (cs.drop k).count true = cs.count true) := ho'
      have HL : Hid (max m (longest (cs.drop k)) = longest cs) := hm'
      clear ho' hm'
      by_cases hlt : k < H
      · have hkl : k < cs.length := by omega
        go_wp2
        go_loop [9] (fun n => ∃ j : Nat, j ≤ H - k ∧ n = .int .i64 j ∧ onesFrom (cs.drop k) = j + onesFrom (cs.drop (k + j))) (fun n => H - k - (intOf n).toNat)
        case atStart => exact ⟨0, by omega, rfl, by simp⟩
        case round =>
          obtain ⟨j, hj, rfl, hq⟩ := hrel
          have HQ' : Hid (onesFrom (cs.drop k) = j + onesFrom (cs.drop (k + j))) := hq
          clear hq
          by_cases hjt : k + j < H
          · have hjl : k + j < cs.length := by omega
            obtain ⟨g, off, rfl, hc⟩ := hread.bool (k + j) hjl
            obtain ⟨b, hb⟩ : ∃ b, cs[k + j] = b := ⟨_, rfl⟩
            rw [hb] at hc
            have HB : Hid (cs[k + j] = b) := hb
            clear hb
            have hd : Hid (cs.drop (k + j) = cs[k + j] :: cs.drop (k + j + 1)) := drop_cons cs (k + j) hjl
            have hjd : (j : Int) < (H : Int) - (k : Int) := by omega
            cases b
            · -- a nought ends the run
              have HQ : Hid (onesFrom (cs.drop k) = j) := by show onesFrom (cs.drop k) = j; have := HQ'.out; rw [hd.out, HB.out] at this; simpa [onesFrom] using this
              obtain ⟨g0, off0, hvo, hc1⟩ := hread.bool k hkl
              first | (obtain rfl := hvo) | (simp only [Option.some.injEq, Addr.mk.injEq, and_true] at hvo; obtain ⟨rfl, rfl⟩ := hvo)
              obtain ⟨b0, hb0⟩ : ∃ b, cs[k] = b := ⟨_, rfl⟩
              rw [hb0] at hc1
              have HB0 : Hid (cs[k] = b0) := hb0
              clear hb0
              have ST : Hid _ := runs_step hkl HB0.out HO.out HL.out HQ.out
              rcases Nat.lt_or_ge m j with hmj | hmj <;> cases b0
              · go_wp2
                go_round
                case rel => exact ⟨k + 1, o, j, by omega, by go_num, by omega, by omega, rfl, rfl, by have := ST.out.1; simpa using this, by have := ST.out.2; omega⟩
                case measure => simp [intOf]; omega
              · go_wp2
                go_round
                case rel => exact ⟨k + 1, o + 1, j, by omega, by go_num, by omega, by omega, by go_num, rfl, by have := ST.out.1; simpa using this, by have := ST.out.2; omega⟩
                case measure => simp [intOf]; omega
              · go_wp2
                go_round
                case rel => exact ⟨k + 1, o, m, by omega, by go_num, by omega, by omega, rfl, rfl, by have := ST.out.1; simpa using this, by have := ST.out.2; omega⟩
                case measure => simp [intOf]; omega
              · go_wp2
                go_round
                case rel => exact ⟨k + 1, o + 1, m, by omega, by go_num, by omega, by omega, by go_num, rfl, by have := ST.out.1; simpa using this, by have := ST.out.2; omega⟩
                case measure => simp [intOf]; omega
            · -- a one: on
              go_wp2
              go_round
              case rel => exact ⟨j + 1, by omega, by go_num, by have := HQ'.out; rw [hd.out, HB.out] at this; simp only [onesFrom] at this; rw [this, Nat.add_assoc k j 1]; omega⟩
              case measure => simp [intOf]; omega
          · obtain rfl : j = H - k := by omega
            generalize hjj : H - k = j at *
            have hjd : ¬ (j : Int) < (H : Int) - (k : Int) := by omega
            have HJJ : Hid (H - k = j) := hjj
            have hj1 : k + j ≤ H := by omega
            clear hjj
            have HQ : Hid (onesFrom (cs.drop k) = j) := by show onesFrom (cs.drop k) = j; have := HQ'.out; rw [List.drop_eq_nil_of_le (show cs.length ≤ k + j by omega)] at this; simpa [onesFrom] using this
            obtain ⟨g0, off0, hvo, hc1⟩ := hread.bool k hkl
            first | (obtain rfl := hvo) | (simp only [Option.some.injEq, Addr.mk.injEq, and_true] at hvo; obtain ⟨rfl, rfl⟩ := hvo)
            obtain ⟨b0, hb0⟩ : ∃ b, cs[k] = b := ⟨_, rfl⟩
            rw [hb0] at hc1
            have HB0 : Hid (cs[k] = b0) := hb0
            clear hb0
            have ST : Hid _ := runs_step hkl HB0.out HO.out HL.out HQ.out
            rcases Nat.lt_or_ge m j with hmj | hmj <;> cases b0
            · go_wp2
              go_round
              case rel => exact ⟨k + 1, o, j, by omega, by go_num, by omega, by omega, rfl, rfl, by have := ST.out.1; simpa using this, by have := ST.out.2; omega⟩
              case measure => simp [intOf]; omega
            · go_wp2
              go_round
              case rel => exact ⟨k + 1, o + 1, j, by omega, by go_num, by omega, by omega, by go_num, rfl, by have := ST.out.1; simpa using this, by have := ST.out.2; omega⟩
              case measure => simp [intOf]; omega
            · go_wp2
              go_round
              case rel => exact ⟨k + 1, o, m, by omega, by go_num, by omega, by omega, rfl, rfl, by have := ST.out.1; simpa using this, by have := ST.out.2; omega⟩
              case measure => simp [intOf]; omega
            · go_wp2
              go_round
              case rel => exact ⟨k + 1, o + 1, m, by omega, by go_num, by omega, by omega, by go_num, rfl, by have := ST.out.1; simpa using this, by have := ST.out.2; omega⟩
              case measure => simp [intOf]; omega
      · obtain rfl : k = H := by omega
        have hd : cs.drop k = [] := List.drop_eq_nil_of_le (by omega)
        have EO : Hid (((cs.count true : Nat) : Int) = o) := by
          show ((cs.count true : Nat) : Int) = o
          have := HO.out
          rw [hd] at this
          simp at this
          omega
        have EL : Hid (((longest cs : Nat) : Int) = m) := by
          show ((longest cs : Nat) : Int) = m
          have := HL.out
          rw [hd] at this
          simp [longest] at this
          omega
        have eo := EO.out
        have el := EL.out
        clear hd
        go_wp2_with (first | (go_at_call 28; refine (ones_n _ _ _ cs _ HCL.out (by omega) hread).mono ?_; rintro e w' ⟨rfl, hw'⟩; obtain rfl := hw'.symm; clear hw') | (go_at_call 29; refine (run_n _ _ _ cs _ HCL.out (by omega) hread).mono ?_; rintro e w' ⟨rfl, hw'⟩; obtain rfl := hw'.symm; clear hw'))
        go_ret
        exact ⟨by simp, hB2⟩
end Go.Proofs.Ytpneddlfejjdeaa.Tape
