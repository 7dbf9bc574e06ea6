/- The law's awake; the walks of SetupUnits and SetupUsual. -/
import Derived.Test.YthojdmbpjaggnaaSetup2
namespace Go.Proofs.Ythojdmbpjaggnaa.Tape
open Go.ChangeShapes Go.WideShapes Go.ChangeAt Go.RowKit

set_option maxRecDepth 100000 in
set_option maxHeartbeats 1000000 in
theorem awake9_any (w : World) : Calls Try.prog 6 #[] w fun e w' => e = .returned (.bool true) ∧ Below w.heap.size w w' := by
  have h0 : unt 5 = 8 := by decide
  go_enter Try.func6, Try.ntmps6
  go_wp2_with fail
  refine (unit_any 5 w (by omega)).mono ?_
  rintro e w1 ⟨rfl, rfl⟩
  rw [h0]
  go_wp2_with fail
  refine (usual_any false _).mono ?_
  rintro e w2 ⟨rfl, hb2⟩
  go_wp2_with fail
  refine (check_any false 8 300 16 600 600 12000 8000 4000 1200 100 4000 6000 0 _ (by decide)).mono ?_
  rintro e w3 ⟨rfl, hb3⟩
  have hB3 := hb2.trans (hb3.mono hb2.size)
  clear hb2 hb3
  go_wp2_with fail
  refine (usual_any true _).mono ?_
  rintro e w4 ⟨rfl, hb4⟩
  have hB4 := hB3.trans (hb4.mono hB3.size)
  clear hB3 hb4
  go_wp2_with fail
  refine (check_any true 8 300 16 600 600 12000 8000 4000 1200 100 4000 6000 0 _ (by decide)).mono ?_
  rintro e w5 ⟨rfl, hb5⟩
  have hB5 := hB4.trans (hb5.mono hB4.size)
  clear hB4 hb5
  go_wp2
  go_ret
  exact ⟨rfl, hB5⟩

set_option maxRecDepth 100000 in
set_option maxHeartbeats 1000000 in
theorem units_walk (n d : Int) (w : World) (hn : (Lit.int .i32 n).wf = true) (hd : (Lit.int .i32 d).wf = true) :
    Calls Try.prog 5 #[.int .i32 n, .int .i32 d] w fun e w' => e = .returned (.bool true) ∧ Below w.heap.size w w' := by
  have hn' := bounds_i32 hn
  have hd' := bounds_i32 hd
  clear hn hd
  have u9 : unt 279 = 337 := by decide
  by_cases hn0 : n < 0
  · have u0 : unt n = 2 := by unfold unt nb0; rw [if_pos hn0]; decide
    have u1 : unt 1 = 4 := by decide
    have u2 : unt 0 = 2 := by decide
    by_cases hd0 : d < 0
    · have l0 : lea d = 682 := by unfold lea nb0; rw [if_pos hd0, u9]; decide
      go_enter Try.func5, Try.ntmps5
      go_wp2_with fail
      refine (awake9_any _).mono ?_
      rintro e w1 ⟨rfl, hb1⟩
      go_wp2_with fail
      refine (unit_any n _ (by omega)).mono ?_
      rintro e w2 ⟨rfl, rfl⟩
      rw [u0]
      go_wp2_with fail
      refine (unit_any 1 _ (by omega)).mono ?_
      rintro e w2 ⟨rfl, rfl⟩
      rw [u1]
      go_wp2_with fail
      refine (unit_any 0 _ (by omega)).mono ?_
      rintro e w2 ⟨rfl, rfl⟩
      rw [u2]
      go_wp2_with fail
      refine (least_any d _ (by omega)).mono ?_
      rintro e w2 ⟨rfl, rfl⟩
      rw [l0]
      go_wp2_with fail
      refine (unit_any 279 _ (by omega)).mono ?_
      rintro e w2 ⟨rfl, rfl⟩
      rw [u9]
      go_wp2
      go_ret
      exact ⟨rfl, hb1⟩
    · have l0 : (lea d == (2 * d + 7) / 8 + 674 + 8) = true := by rw [beq_iff_eq]; unfold lea nb0; rw [if_neg hd0, u9]; omega
      have e3 : (2 * d + 7).tdiv 8 = (2 * d + 7) / 8 := Int.tdiv_eq_ediv_of_nonneg (by omega)
      go_enter Try.func5, Try.ntmps5
      go_wp2_with fail
      refine (awake9_any _).mono ?_
      rintro e w1 ⟨rfl, hb1⟩
      go_wp2_with fail
      refine (unit_any n _ (by omega)).mono ?_
      rintro e w2 ⟨rfl, rfl⟩
      rw [u0]
      go_wp2_with fail
      refine (unit_any 1 _ (by omega)).mono ?_
      rintro e w2 ⟨rfl, rfl⟩
      rw [u1]
      go_wp2_with fail
      refine (unit_any 0 _ (by omega)).mono ?_
      rintro e w2 ⟨rfl, rfl⟩
      rw [u2]
      go_wp2_with fail
      refine (least_any d _ (by omega)).mono ?_
      rintro e w2 ⟨rfl, rfl⟩
      go_wp2_with fail
      refine (unit_any 279 _ (by omega)).mono ?_
      rintro e w2 ⟨rfl, rfl⟩
      rw [u9]
      go_wp2
      go_ret
      exact ⟨rfl, hb1⟩
  · have e1 : (8 * n).tdiv 5 = 8 * n / 5 := Int.tdiv_eq_ediv_of_nonneg (by omega)
    have e2 : (8 * n + 8 * n / 5 + 15).tdiv 8 = (8 * n + 8 * n / 5 + 15) / 8 := Int.tdiv_eq_ediv_of_nonneg (by omega)
    have t1 : (unt n == (8 * n + 8 * n / 5 + 15) / 8 + 1) = true := by rw [beq_iff_eq]; unfold unt nb0; rw [if_neg hn0]
    have t2 : unt n ≤ unt (n + 1) := by unfold unt nb0; rw [if_neg hn0, if_neg (by omega)]; omega
    by_cases hd0 : d < 0
    · have l0 : lea d = 682 := by unfold lea nb0; rw [if_pos hd0, u9]; decide
      go_enter Try.func5, Try.ntmps5
      go_wp2_with fail
      refine (awake9_any _).mono ?_
      rintro e w1 ⟨rfl, hb1⟩
      go_wp2_with fail
      refine (unit_any n _ (by omega)).mono ?_
      rintro e w2 ⟨rfl, rfl⟩
      go_wp2_with fail
      refine (unit_any (n + 1) _ (by omega)).mono ?_
      rintro e w2 ⟨rfl, rfl⟩
      go_wp2_with fail
      refine (unit_any n _ (by omega)).mono ?_
      rintro e w2 ⟨rfl, rfl⟩
      go_wp2_with fail
      refine (least_any d _ (by omega)).mono ?_
      rintro e w2 ⟨rfl, rfl⟩
      rw [l0]
      go_wp2_with fail
      refine (unit_any 279 _ (by omega)).mono ?_
      rintro e w2 ⟨rfl, rfl⟩
      rw [u9]
      go_wp2
      go_ret
      exact ⟨rfl, hb1⟩
    · have l0 : (lea d == (2 * d + 7) / 8 + 674 + 8) = true := by rw [beq_iff_eq]; unfold lea nb0; rw [if_neg hd0, u9]; omega
      have e3 : (2 * d + 7).tdiv 8 = (2 * d + 7) / 8 := Int.tdiv_eq_ediv_of_nonneg (by omega)
      go_enter Try.func5, Try.ntmps5
      go_wp2_with fail
      refine (awake9_any _).mono ?_
      rintro e w1 ⟨rfl, hb1⟩
      go_wp2_with fail
      refine (unit_any n _ (by omega)).mono ?_
      rintro e w2 ⟨rfl, rfl⟩
      go_wp2_with fail
      refine (unit_any (n + 1) _ (by omega)).mono ?_
      rintro e w2 ⟨rfl, rfl⟩
      go_wp2_with fail
      refine (unit_any n _ (by omega)).mono ?_
      rintro e w2 ⟨rfl, rfl⟩
      go_wp2_with fail
      refine (least_any d _ (by omega)).mono ?_
      rintro e w2 ⟨rfl, rfl⟩
      go_wp2_with fail
      refine (unit_any 279 _ (by omega)).mono ?_
      rintro e w2 ⟨rfl, rfl⟩
      rw [u9]
      go_wp2
      go_ret
      exact ⟨rfl, hb1⟩

theorem same8 (w : World) : (Op.equalIn 10000 22 (.agg #[.int .i64 600, .int .i64 12000, .int .i64 8000, .int .i64 4000, .int .i64 1200, .int .i64 100, .int .i64 4000, .int .i64 6000]) (.agg #[.int .i64 600, .int .i64 12000, .int .i64 8000, .int .i64 4000, .int .i64 1200, .int .i64 100, .int .i64 4000, .int .i64 6000])).run Try.prog w = .ok true w := by
  show _ = _
  kernel_rfl

set_option maxRecDepth 100000 in
set_option maxHeartbeats 1000000 in
theorem usual_walk (c : Bool) (w : World) :
    Calls Try.prog 4 #[.bool c] w fun e w' => e = .returned (.bool true) ∧ Below w.heap.size w w' := by
  go_enter Try.func4, Try.ntmps4
  go_wp2_with fail
  refine (usual_any c _).mono ?_
  rintro e w1 ⟨rfl, hb1⟩
  have hbox := heap_alloc_new w1 (.cells #[.bool c, .int .i64 8, .int .i64 300, .int .i64 16, .int .i64 600, .int .i64 600, .int .i64 12000, .int .i64 8000, .int .i64 4000, .int .i64 1200, .int .i64 100, .int .i64 4000, .int .i64 6000] 24)
  have hB1 := hb1.alloc hb1.size (.cells #[.bool c, .int .i64 8, .int .i64 300, .int .i64 16, .int .i64 600, .int .i64 600, .int .i64 12000, .int .i64 8000, .int .i64 4000, .int .i64 1200, .int .i64 100, .int .i64 4000, .int .i64 6000] 24)
  have HX : Hid (w1.heap.size < (w1.alloc (.cells #[.bool c, .int .i64 8, .int .i64 300, .int .i64 16, .int .i64 600, .int .i64 600, .int .i64 12000, .int .i64 8000, .int .i64 4000, .int .i64 1200, .int .i64 100, .int .i64 4000, .int .i64 6000] 24)).heap.size) := heap_lt hbox
  go_wp2_with fail
  refine (awake9_any _).mono ?_
  rintro e w2 ⟨rfl, hb2⟩
  have hB2 := hB1.trans (hb2.mono hB1.size)
  have hbox2 := (hb2.block _ HX.out).trans hbox
  have hcell : ∀ k : Nat, w2.cell? ⟨w1.heap.size, k, none⟩ = (#[.bool c, .int .i64 8, .int .i64 300, .int .i64 16, .int .i64 600, .int .i64 600, .int .i64 12000, .int .i64 8000, .int .i64 4000, .int .i64 1200, .int .i64 100, .int .i64 4000, .int .i64 6000] : Array Value)[k]? := fun k => by
    unfold World.cell?
    rw [hbox2]
    rfl
  have c0 := hcell 0
  have c1 := hcell 1
  have c2 := hcell 2
  have c3 := hcell 3
  have c4 := hcell 4
  have c5 := hcell 5
  have c6 := hcell 6
  have c7 := hcell 7
  have c8 := hcell 8
  have c9 := hcell 9
  have c10 := hcell 10
  have c11 := hcell 11
  have c12 := hcell 12
  simp at c0 c1 c2 c3 c4 c5 c6 c7 c8 c9 c10 c11 c12
  clear hb1 hb2 hB1 HX hbox hbox2 hcell
  have heq := same8 w2
  go_wp2
  go_ret
  exact ⟨rfl, hB2⟩
end Go.Proofs.Ythojdmbpjaggnaa.Tape
