/- The walk of the law RingWithin: it returns true and writes nothing that was there. -/
import Derived.Test.YtpneddlfejjdeaaBetween
import Derived.OpenShut
namespace Go.Proofs.Ytpneddlfejjdeaa.Ring
open Go.ChangeShapes Go.WideShapes Go.ChangeAt Go.RowKit

theorem upto_get (a : Int) (m k : Nat) (h : k < m) : ((upto a m).map (Value.int .u8))[k]? = some (.int .u8 ((a + k) % 128)) := by
  simp [upto, h]

theorem row_cells {w : World} {base g m cap : Nat} {a : Int} (h : w.ownsRow base 5 1 (.slice (some ⟨g, 0, none⟩) m cap) m ((upto a m).map (Value.int .u8))) :
    ∀ k, k < m → w.cell? ⟨g, k, none⟩ = some (.int .u8 ((a + k) % 128)) := by
  intro k hk
  have := h.cells rfl k _ (upto_get a m k hk)
  rwa [Addr.add_lit, Nat.zero_add] at this

set_option maxRecDepth 100000 in
set_option maxHeartbeats 1000000 in
theorem within_walk (a0 a1 a2 : Int) (w0 : (Lit.int .u8 a0).wf = true) (w1 : (Lit.int .u8 a1).wf = true) (w2 : (Lit.int .u8 a2).wf = true) (w : World) :
    Calls Try.prog 5 #[.int .u8 a0, .int .u8 a1, .int .u8 a2] w fun e w' => e = .returned (.bool true) ∧ Below w.heap.size w w' := by
  obtain ⟨b0, b1⟩ := bounds_u8 w0
  obtain ⟨c0, c1⟩ := bounds_u8 w1
  obtain ⟨d0, d1⟩ := bounds_u8 w2
  obtain ⟨m, hm⟩ : ∃ m, many a1 a2 = m + 1 := ⟨_, rfl⟩
  have hm' := many_int a1 a2
  rw [hm] at hm'
  have hm1 : (((m + 1 : Nat) : Int) != (a2 - a1) % 128 + 1) = false := by rw [bne_eq_false_iff_eq]; omega
  have hm2 : ((m : Int) + 1 != (a2 - a1) % 128 + 1) = false := by rw [bne_eq_false_iff_eq]; omega
  have hm4 : ((m : Int) != (a2 - a1) % 128) = false := by rw [bne_eq_false_iff_eq]; omega
  have hm3 : m + 1 ≤ 128 := by omega
  have HM : Hid ((m : Int) = (a2 - a1) % 128) := by show (m : Int) = _; omega
  have HMM : Hid (many a1 a2 = m + 1) := hm
  clear hm hm'
  go_enter Try.func5, Try.ntmps5
  go_wp2_with (first | (go_at_call 18; refine (between_any _ _ (by omega) (by omega) (by omega) (by omega) _).mono ?_; rintro e wl ⟨v, rfl, hrow, hB⟩; rw [HMM.out] at hrow; obtain ⟨g, cap, rfl⟩ := ownsRow_succ hrow; have hcell := row_cells hrow) | (go_at_call 12; refine (awake_any _).mono ?_; rintro e w' ⟨rfl, hw'⟩; obtain rfl := hw'.symm; clear hw') | (go_at_call 17; refine (rgap_any _ _ (by omega) (by omega) (by omega) (by omega) _).mono ?_; rintro e w' ⟨rfl, hw'⟩; obtain rfl := hw'.symm; clear hw'))
  clear hm1 hm2 hm4 hrow
  go_loop [8, 9] (fun v i => ∃ k : Nat, k ≤ m + 1 ∧ i = .int .i64 k ∧ v = .bool (decide ((a0 - a1) % 128 < k))) (fun _ i => m + 1 - (intOf i).toNat)
  case atStart => exact ⟨0, by omega, rfl, by simp; omega⟩
  case round =>
    obtain ⟨k, hk, rfl, rfl⟩ := hrel
    by_cases hlt : k < m + 1
    · have hck := hcell k hlt
      have s1 : (((a1 + k) % 128 - a1) % 128 != (k : Int)) = false := by rw [bne_eq_false_iff_eq]; omega
      have s2 : ((a1 + k - a1) % 128 != (k : Int)) = false := by rw [bne_eq_false_iff_eq]; omega
      clear hcell
      by_cases hin : (a0 - a1) % 128 < k
      · have hd : decide ((a0 - a1) % 128 < (k : Int)) = true := by simpa using hin
        go_wp2_with (go_at_call 17; refine (rgap_any _ _ (by omega) (by omega) (by omega) (by omega) _).mono ?_; rintro e w' ⟨rfl, hw'⟩; obtain rfl := hw'.symm; clear hw')
        go_round
        case rel => exact ⟨k + 1, by omega, by go_num, by rw [decide_eq_true (by omega)]⟩
        case measure => simp [intOf]; omega
      · have hd : decide ((a0 - a1) % 128 < (k : Int)) = false := by simpa using hin
        have he : ((a1 + k) % 128 == a0 % 128) = decide ((a0 - a1) % 128 < ((k + 1 : Nat) : Int)) := by
          rw [Bool.eq_iff_iff, beq_iff_eq, decide_eq_true_iff]; omega
        have HE : Hid (((a1 + k) % 128 == a0 % 128) = decide ((a0 - a1) % 128 < ((k + 1 : Nat) : Int))) := he
        clear he
        go_wp2_with (go_at_call 17; refine (rgap_any _ _ (by omega) (by omega) (by omega) (by omega) _).mono ?_; rintro e w' ⟨rfl, hw'⟩; obtain rfl := hw'.symm; clear hw')
        go_round
        case rel => exact ⟨k + 1, by omega, by go_num, by rw [← HE.out]⟩
        case measure => simp [intOf]; omega
    · obtain rfl : k = m + 1 := by omega
      have he : (decide ((a0 - a1) % 128 ≤ (a2 - a1) % 128) == decide ((a0 - a1) % 128 < ((m + 1 : Nat) : Int))) = true := by
        have := HM.out
        rw [beq_iff_eq, Bool.eq_iff_iff, decide_eq_true_iff, decide_eq_true_iff]; omega
      have HE : Hid ((decide ((a0 - a1) % 128 ≤ (a2 - a1) % 128) == decide ((a0 - a1) % 128 < ((m + 1 : Nat) : Int))) = true) := he
      clear he
      go_wp2_with (go_at_call 19; refine (within_any _ _ _ (by omega) (by omega) (by omega) (by omega) (by omega) (by omega) _).mono ?_; rintro e w' ⟨rfl, hw'⟩; obtain rfl := hw'.symm; clear hw')
      go_ret
      have := HE.out
      exact ⟨by simp_all, hB⟩
end Go.Proofs.Ytpneddlfejjdeaa.Ring
