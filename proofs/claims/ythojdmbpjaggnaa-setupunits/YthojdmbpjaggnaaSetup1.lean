/- The contracts of setup's held, within, notBelow0, Unit, Least. -/
import Derived.Test.YthojdmbpjaggnaaBase
namespace Go.Proofs.Ythojdmbpjaggnaa.Tape
open Go.ChangeShapes Go.WideShapes Go.ChangeAt Go.RowKit

/-- A number, or the bound that it is beyond. -/
def hld (n l m : Int) : Int := if m < (if n < l then l else n) then m else (if n < l then l else n)

theorem held_any (n l m : Int) (w : World) : Calls Try.prog 14 #[.int .i64 n, .int .i64 l, .int .i64 m] w fun e w' => e = .returned (.int .i64 (hld n l m)) ∧ w' = w := by
  go_enter Try.func14, Try.ntmps14
  go_wp2
  all_goals (go_ret; refine ⟨ret_int ?_, rfl⟩; unfold hld; repeat' split)
  all_goals first | rfl | omega

theorem within_any (n l m : Int) (w : World) (h : l ≤ m) : Calls Try.prog 13 #[.int .i64 n, .int .i64 l, .int .i64 m] w fun e w' => e = .returned (.bool (decide (l ≤ n ∧ n ≤ m))) ∧ w' = w := by
  go_enter Try.func13, Try.ntmps13
  go_wp2_with fail
  refine (held_any n l m w).mono ?_
  rintro e w1 ⟨rfl, rfl⟩
  go_wp2
  go_ret
  refine ⟨ret_bool ?_, rfl⟩
  rw [Bool.eq_iff_iff]
  simp only [beq_iff_eq, decide_eq_true_eq]
  unfold hld
  repeat' split
  all_goals omega

/-- 0 below 0. -/
def nb0 (n : Int) : Int := if n < 0 then 0 else n

theorem notBelow0_any (n : Int) (w : World) (h : n ≤ 9223372036854775807) : Calls Try.prog 12 #[.int .i64 n] w fun e w' => e = .returned (.int .i64 (nb0 n)) ∧ w' = w := by
  go_enter Try.func12, Try.ntmps12
  go_wp2_with fail
  refine (held_any n 0 9223372036854775807 w).mono ?_
  rintro e w1 ⟨rfl, rfl⟩
  go_wp2
  go_ret
  refine ⟨ret_int ?_, rfl⟩
  unfold hld nb0
  repeat' split
  all_goals omega

/-- How many ticks a unit takes. -/
def unt (n : Int) : Int := (8 * nb0 n + 8 * nb0 n / 5 + 15) / 8 + 1

theorem unt_bounds (n : Int) (h : n ≤ 1099511627776) : 0 ≤ unt n ∧ unt n ≤ 10000000000000 := by
  unfold unt nb0
  split <;> omega

theorem nb0_bounds (n : Int) (h : n ≤ 1099511627776) : 0 ≤ nb0 n ∧ nb0 n ≤ 1099511627776 := by
  unfold nb0
  split <;> omega

theorem unit_any (n : Int) (w : World) (h : n ≤ 1099511627776) : Calls Try.prog 9 #[.int .i64 n] w fun e w' => e = .returned (.int .i64 (unt n)) ∧ w' = w := by
  obtain ⟨h1, h2⟩ := nb0_bounds n h
  go_enter Try.func9, Try.ntmps9
  go_wp2_with fail
  refine (notBelow0_any n w (by omega)).mono ?_
  rintro e w1 ⟨rfl, rfl⟩
  have HU : Hid ((8 * nb0 n + 8 * nb0 n / 5 + 15) / 8 + 1 = unt n) := rfl
  generalize nb0 n = a at HU h1 h2
  have e1 : (8 * a).tdiv 5 = 8 * a / 5 := Int.tdiv_eq_ediv_of_nonneg (by omega)
  have e2 : (8 * a + 8 * a / 5 + 15).tdiv 8 = (8 * a + 8 * a / 5 + 15) / 8 := Int.tdiv_eq_ediv_of_nonneg (by omega)
  go_wp2
  go_ret
  exact ⟨ret_int HU.out, rfl⟩

/-- The least T7. -/
def lea (d : Int) : Int := (2 * nb0 d + 7) / 8 + 2 * unt 279 + 8

theorem least_any (d : Int) (w : World) (h : d ≤ 1099511627776) : Calls Try.prog 10 #[.int .i64 d] w fun e w' => e = .returned (.int .i64 (lea d)) ∧ w' = w := by
  obtain ⟨h1, h2⟩ := nb0_bounds d h
  obtain ⟨h3, h4⟩ := unt_bounds 279 (by omega)
  go_enter Try.func10, Try.ntmps10
  go_wp2_with fail
  refine (notBelow0_any d w (by omega)).mono ?_
  rintro e w1 ⟨rfl, rfl⟩
  go_wp2_with fail
  refine (unit_any 279 w1 (by omega)).mono ?_
  rintro e w2 ⟨rfl, rfl⟩
  have HU : Hid ((2 * nb0 d + 7) / 8 + 2 * unt 279 + 8 = lea d) := rfl
  generalize nb0 d = a at HU h1 h2
  generalize unt 279 = U at HU h3 h4
  have e2 : (2 * a + 7).tdiv 8 = (2 * a + 7) / 8 := Int.tdiv_eq_ediv_of_nonneg (by omega)
  go_wp2
  go_ret
  exact ⟨ret_int HU.out, rfl⟩
end Go.Proofs.Ythojdmbpjaggnaa.Tape
