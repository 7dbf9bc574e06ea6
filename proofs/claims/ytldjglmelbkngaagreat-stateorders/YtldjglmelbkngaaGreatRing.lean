/- The contracts of package ring's plain functions (At, Next, Prev, Gap, Within), of the reference's Gap and of the law's awake. -/
import Derived.Test.YtldjglmelbkngaaGreatRows
import Derived.WalkKit
import Derived.ProofKit
namespace Go.Proofs.YtldjglmelbkngaaGreat.Ring
open Go.ChangeShapes Go.WideShapes Go.ChangeAt Go.RowKit

theorem ret_int {k : IntKind} {a b : Int} (h : a = b) : Ending.returned (.int k a) = .returned (.int k b) := by rw [h]

theorem at_num (n : Int) : (wrap64 (n.tmod 128 + 128)).tmod 128 % 256 = n % 128 := by
  have h1 := Int.tmod_eq_emod (a := n) (b := 128)
  have h2 : -128 < n.tmod 128 ∧ n.tmod 128 < 128 := by
    rw [h1]; split <;> omega
  have h3 : wrap64 (n.tmod 128 + 128) = n.tmod 128 + 128 := by unfold wrap64; omega
  rw [h3, Int.tmod_eq_emod_of_nonneg (by omega), h1]
  split <;> omega

set_option maxHeartbeats 400000 in
theorem at_any (n : Int) (w : World) :
    Calls Tryz.prog 152 #[.int .i64 n] w fun e w' => e = .returned (.int .u8 (n % 128)) ∧ w' = w := by
  go_enter Tryz.func152, Tryz.ntmps152
  go_wp2
  go_ret
  exact ⟨ret_int (at_num n), rfl⟩

set_option maxHeartbeats 400000 in
theorem next_any (n : Int) (h0 : 0 ≤ n) (h1 : n ≤ 255) (w : World) :
    Calls Tryz.prog 144 #[.int .u8 n] w fun e w' => e = .returned (.int .u8 ((n + 1) % 128)) ∧ w' = w := by
  go_enter Tryz.func144, Tryz.ntmps144
  go_wp2_with (go_at_call 152; refine (at_any _ _).mono ?_; rintro e w' ⟨rfl, rfl⟩)
  go_ret
  exact ⟨rfl, rfl⟩

set_option maxHeartbeats 400000 in
theorem prev_any (n : Int) (h0 : 0 ≤ n) (h1 : n ≤ 255) (w : World) :
    Calls Tryz.prog 148 #[.int .u8 n] w fun e w' => e = .returned (.int .u8 ((n - 1) % 128)) ∧ w' = w := by
  go_enter Tryz.func148, Tryz.ntmps148
  go_wp2_with (go_at_call 152; refine (at_any _ _).mono ?_; rintro e w' ⟨rfl, rfl⟩)
  go_ret
  exact ⟨rfl, rfl⟩

set_option maxHeartbeats 400000 in
theorem gap_any (a b : Int) (h0 : 0 ≤ a) (h1 : a ≤ 255) (h2 : 0 ≤ b) (h3 : b ≤ 255) (w : World) :
    Calls Tryz.prog 154 #[.int .u8 a, .int .u8 b] w fun e w' => e = .returned (.int .i64 ((b - a) % 128)) ∧ w' = w := by
  go_enter Tryz.func154, Tryz.ntmps154
  go_wp2_with (go_at_call 152; refine (at_any _ _).mono ?_; rintro e w' ⟨rfl, rfl⟩)
  go_ret
  exact ⟨rfl, rfl⟩

set_option maxHeartbeats 400000 in
theorem within_any (n a b : Int) (hn : 0 ≤ n) (hn1 : n ≤ 255) (h0 : 0 ≤ a) (h1 : a ≤ 255) (h2 : 0 ≤ b) (h3 : b ≤ 255) (w : World) :
    Calls Tryz.prog 153 #[.int .u8 n, .int .u8 a, .int .u8 b] w fun e w' => e = .returned (.bool (decide ((n - a) % 128 ≤ (b - a) % 128))) ∧ w' = w := by
  go_enter Tryz.func153, Tryz.ntmps153
  go_wp2_with (go_at_call 154; refine (gap_any _ _ (by omega) (by omega) (by omega) (by omega) _).mono ?_; rintro e w' ⟨rfl, rfl⟩)
  go_ret
  exact ⟨rfl, rfl⟩

end Go.Proofs.YtldjglmelbkngaaGreat.Ring
