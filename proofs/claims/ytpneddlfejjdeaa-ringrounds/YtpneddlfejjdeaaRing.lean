/- The contracts of package ring's plain functions (At, Next, Prev, Gap, Within), of the reference's Gap and of the law's awake. -/
import Derived.Test.YtpneddlfejjdeaaRows
import Derived.WalkKit
import Derived.ProofKit
namespace Go.Proofs.Ytpneddlfejjdeaa.Ring
open Go.ChangeShapes Go.WideShapes Go.ChangeAt Go.RowKit

theorem ret_int {k : IntKind} {a b : Int} (h : a = b) : Ending.returned (.int k a) = .returned (.int k b) := by rw [h]

theorem at_num (n : Int) : (wrap64 (n.tmod 128 + 128)).tmod 128 % 256 = n % 128 := by
  have h1 := Int.tmod_eq_emod (a := n) (b := 128)
  have h2 : -128 < n.tmod 128 ∧ n.tmod 128 < 128 := by
    rw [h1]; split <;> omega
  have h3 : wrap64 (n.tmod 128 + 128) = n.tmod 128 + 128 := by unfold wrap64; omega
  rw [h3, Int.tmod_eq_emod_of_nonneg (by omega), h1]
  split <;> omega

set_option maxHeartbeats 400000 in
theorem at_any (n : Int) (w : World) :
    Calls Try.prog 13 #[.int .i64 n] w fun e w' => e = .returned (.int .u8 (n % 128)) ∧ w' = w := by
  go_enter Try.func13, Try.ntmps13
  go_wp2
  go_ret
  exact ⟨ret_int (at_num n), rfl⟩

set_option maxHeartbeats 400000 in
theorem next_any (n : Int) (h0 : 0 ≤ n) (h1 : n ≤ 255) (w : World) :
    Calls Try.prog 14 #[.int .u8 n] w fun e w' => e = .returned (.int .u8 ((n + 1) % 128)) ∧ w' = w := by
  go_enter Try.func14, Try.ntmps14
  go_wp2_with (go_at_call 13; refine (at_any _ _).mono ?_; rintro e w' ⟨rfl, rfl⟩)
  go_ret
  exact ⟨rfl, rfl⟩

set_option maxHeartbeats 400000 in
theorem prev_any (n : Int) (h0 : 0 ≤ n) (h1 : n ≤ 255) (w : World) :
    Calls Try.prog 15 #[.int .u8 n] w fun e w' => e = .returned (.int .u8 ((n - 1) % 128)) ∧ w' = w := by
  go_enter Try.func15, Try.ntmps15
  go_wp2_with (go_at_call 13; refine (at_any _ _).mono ?_; rintro e w' ⟨rfl, rfl⟩)
  go_ret
  exact ⟨rfl, rfl⟩

set_option maxHeartbeats 400000 in
theorem gap_any (a b : Int) (h0 : 0 ≤ a) (h1 : a ≤ 255) (h2 : 0 ≤ b) (h3 : b ≤ 255) (w : World) :
    Calls Try.prog 16 #[.int .u8 a, .int .u8 b] w fun e w' => e = .returned (.int .i64 ((b - a) % 128)) ∧ w' = w := by
  go_enter Try.func16, Try.ntmps16
  go_wp2_with (go_at_call 13; refine (at_any _ _).mono ?_; rintro e w' ⟨rfl, rfl⟩)
  go_ret
  exact ⟨rfl, rfl⟩

set_option maxHeartbeats 400000 in
theorem within_any (n a b : Int) (hn : 0 ≤ n) (hn1 : n ≤ 255) (h0 : 0 ≤ a) (h1 : a ≤ 255) (h2 : 0 ≤ b) (h3 : b ≤ 255) (w : World) :
    Calls Try.prog 19 #[.int .u8 n, .int .u8 a, .int .u8 b] w fun e w' => e = .returned (.bool (decide ((n - a) % 128 ≤ (b - a) % 128))) ∧ w' = w := by
  go_enter Try.func19, Try.ntmps19
  go_wp2_with (go_at_call 16; refine (gap_any _ _ (by omega) (by omega) (by omega) (by omega) _).mono ?_; rintro e w' ⟨rfl, rfl⟩)
  go_ret
  exact ⟨rfl, rfl⟩

set_option maxHeartbeats 400000 in
theorem awake_any (w : World) :
    Calls Try.prog 12 #[] w fun e w' => e = .returned (.bool true) ∧ w' = w := by
  go_enter Try.func12, Try.ntmps12
  go_wp2_with (first | (go_at_call 16; refine (gap_any _ _ (by omega) (by omega) (by omega) (by omega) _).mono ?_; rintro e w' ⟨rfl, rfl⟩) | (go_at_call 19; refine (within_any _ _ _ (by omega) (by omega) (by omega) (by omega) (by omega) (by omega) _).mono ?_; rintro e w' ⟨rfl, rfl⟩))
  go_ret
  exact ⟨rfl, rfl⟩

/-- The reference's Gap: it counts steps. -/
theorem rgap_any (a b : Int) (h0 : 0 ≤ a) (h1 : a ≤ 255) (h2 : 0 ≤ b) (h3 : b ≤ 255) (w : World) :
    Calls Try.prog 17 #[.int .u8 a, .int .u8 b] w fun e w' => e = .returned (.int .i64 ((b - a) % 128)) ∧ w' = w := by
  go_enter Try.func17, Try.ntmps17
  go_wp2
  go_loop [5, 6] (fun n c => ∃ k : Nat, (k : Int) ≤ (b - a) % 128 ∧ n = .int .i64 k ∧ c = .int .u8 ((a + k) % 128)) (fun n _ => (128 - intOf n).toNat)
  case atStart => exact ⟨0, by omega, rfl, by simp⟩
  case round =>
    obtain ⟨k, hk, rfl, rfl⟩ := hrel
    have hm : (b - a) % 128 < 128 := by omega
    by_cases hlt : (k : Int) < (b - a) % 128
    · have ht : ((a + k) % 128 != b % 128) = true := by rw [bne_iff_ne]; omega
      go_wp2
      go_round
      case rel => exact ⟨k + 1, by omega, by go_num, by go_num⟩
      case measure => simp [intOf]; omega
    · have ht : ((a + k) % 128 != b % 128) = false := by rw [bne_eq_false_iff_eq]; omega
      go_wp2
      go_ret
      exact ⟨ret_int (by omega), rfl⟩
end Go.Proofs.Ytpneddlfejjdeaa.Ring
