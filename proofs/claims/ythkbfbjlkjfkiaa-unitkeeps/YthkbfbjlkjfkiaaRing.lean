/- The contracts of package ring's plain functions (At, Next, Prev, Gap, Within), of the reference's Gap and of the law's awake. -/
import Derived.Test.YthkbfbjlkjfkiaaRows
import Derived.WalkKit
import Derived.ProofKit
namespace Go.Proofs.Ythkbfbjlkjfkiaa.Ring
open Go.ChangeShapes Go.WideShapes Go.ChangeAt Go.RowKit

theorem ret_int {k : IntKind} {a b : Int} (h : a = b) : Ending.returned (.int k a) = .returned (.int k b) := by rw [h]

theorem at_num (n : Int) : (wrap64 (n.tmod 128 + 128)).tmod 128 % 256 = n % 128 := by
  have h1 := Int.tmod_eq_emod (a := n) (b := 128)
  have h2 : -128 < n.tmod 128 ∧ n.tmod 128 < 128 := by
    rw [h1]; split <;> omega
  have h3 : wrap64 (n.tmod 128 + 128) = n.tmod 128 + 128 := by unfold wrap64; omega
  rw [h3, Int.tmod_eq_emod_of_nonneg (by omega), h1]
  split <;> omega

set_option maxHeartbeats 400000 in
theorem at_any (n : Int) (w : World) :
    Calls Try.prog 26 #[.int .i64 n] w fun e w' => e = .returned (.int .u8 (n % 128)) ∧ w' = w := by
  go_enter Try.func26, Try.ntmps26
  go_wp2
  go_ret
  exact ⟨ret_int (at_num n), rfl⟩

end Go.Proofs.Ythkbfbjlkjfkiaa.Ring
