/- The walk of the law RingRounds: it returns true and writes nothing that was there. -/
import Derived.Test.YtpneddlfejjdeaaBetween
import Derived.OpenShut
namespace Go.Proofs.Ytpneddlfejjdeaa.Ring
open Go.ChangeShapes Go.WideShapes Go.ChangeAt Go.RowKit

theorem many_prev (a : Int) : many a ((a - 1) % 128) = 127 + 1 := by unfold many; omega

set_option maxRecDepth 100000 in
set_option maxHeartbeats 1000000 in
theorem rounds_walk (a0 : Int) (a1 : Int) (w0 : (Lit.int .u8 a0).wf = true) (w1 : (Lit.int .u16 a1).wf = true) (w : World) :
    Calls Try.prog 6 #[.int .u8 a0, .int .u16 a1] w fun e w' => e = .returned (.bool true) ∧ Below w.heap.size w w' := by
  obtain ⟨b0, b1⟩ := bounds_u8 w0
  obtain ⟨c0, c1⟩ := bounds_u16 w1
  obtain ⟨K, hK⟩ : ∃ K : Nat, (K : Int) = a1 % 300 := ⟨(a1 % 300).toNat, by omega⟩
  have HK : Hid ((K : Int) = a1 % 300) := hK
  have hK1 : K < 300 := by omega
  have hK2 : a1 % 300 ≤ K := by omega
  have hK3 : (K : Int) ≤ a1 % 300 := by omega
  clear hK
  go_enter Try.func6, Try.ntmps6
  go_wp2_with (go_at_call 12; refine (awake_any _).mono ?_; rintro e w' ⟨rfl, hw'⟩; obtain rfl := hw'.symm; clear hw')
  go_loop [5, 6] (fun n i => ∃ k : Nat, k ≤ K ∧ i = .int .i64 k ∧ n = .int .u8 ((a0 + k) % 128)) (fun _ i => K - (intOf i).toNat)
  case atStart => exact ⟨0, by omega, rfl, by simp⟩
  case round =>
    obtain ⟨k, hk, rfl, rfl⟩ := hrel
    by_cases hlt : k < K
    · have hlt' : (k : Int) < a1 % 300 := by omega
      go_wp2_with (go_at_call 14; refine (next_any _ (by omega) (by omega) _).mono ?_; rintro e w' ⟨rfl, hw'⟩; obtain rfl := hw'.symm; clear hw')
      go_round
      case rel => exact ⟨k + 1, by omega, by go_num, by go_num⟩
      case measure => simp [intOf]; omega
    · have hlt' : ¬ (k : Int) < a1 % 300 := by omega
      obtain rfl : k = K := by omega
      go_wp2
      go_loop [7, 8] (fun n i => ∃ j : Nat, j ≤ k ∧ i = .int .i64 j ∧ n = .int .u8 ((a0 + k - j) % 128)) (fun _ i => k - (intOf i).toNat)
      case atStart => exact ⟨0, by omega, rfl, by simp⟩
      case round =>
        obtain ⟨j, hj, rfl, rfl⟩ := hrel
        by_cases hjt : j < k
        · have hjt' : (j : Int) < a1 % 300 := by omega
          go_wp2_with (go_at_call 15; refine (prev_any _ (by omega) (by omega) _).mono ?_; rintro e w' ⟨rfl, hw'⟩; obtain rfl := hw'.symm; clear hw')
          go_round
          case rel => exact ⟨j + 1, by omega, by go_num, by go_num⟩
          case measure => simp [intOf]; omega
        · have hjt' : ¬ (j : Int) < a1 % 300 := by omega
          obtain rfl : j = k := by omega
          have t1 : ((a0 + j - j) % 128 == a0 % 128) = true := by rw [beq_iff_eq]; omega
          have t2 : (((a0 + j) % 128 - a0) % 128 == a1 % 300 % 128) = true := by rw [beq_iff_eq]; omega
          have t2' : ((a0 + j - a0) % 128 == a1 % 300 % 128) = true := by rw [beq_iff_eq]; omega
          have t3 : ((a0 + a1 % 300) % 128 == (a0 + j) % 128) = true := by rw [beq_iff_eq]; omega
          go_wp2_with (first | (go_at_call 16; refine (gap_any _ _ (by omega) (by omega) (by omega) (by omega) _).mono ?_; rintro e w' ⟨rfl, hw'⟩; obtain rfl := hw'.symm; clear hw') | (go_at_call 13; refine (at_any _ _).mono ?_; rintro e w' ⟨rfl, hw'⟩; obtain rfl := hw'.symm; clear hw') | (go_at_call 15; refine (prev_any _ (by omega) (by omega) _).mono ?_; rintro e w' ⟨rfl, hw'⟩; obtain rfl := hw'.symm; clear hw') | (go_at_call 18; refine (between_any _ _ (by omega) (by omega) (by omega) (by omega) _).mono ?_; rintro e w1 ⟨v, rfl, hrow, hB⟩; rw [many_prev] at hrow; obtain ⟨g, cap, rfl⟩ := ownsRow_succ hrow))
          go_ret
          exact ⟨by simp_all, hB⟩
end Go.Proofs.Ytpneddlfejjdeaa.Ring
