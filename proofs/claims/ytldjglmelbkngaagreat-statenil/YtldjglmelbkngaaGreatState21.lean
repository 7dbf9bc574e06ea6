/- The contracts of a nil State's calls, and of Name; the walk of the law StateNil. -/
import Derived.Test.YtldjglmelbkngaaGreatArg17
import Derived.Test.YtldjglmelbkngaaGreatState20
import Derived.Deep.QuietTactic
import Derived.BigQuiet
namespace Go.Proofs.YtldjglmelbkngaaGreat.Tape
open Go.ChangeShapes Go.WideShapes Go.ChangeAt Go.RowKit
set_option linter.unusedVariables false

attribute [local go_sem ↓] ldU_def stU_def

theorem st_tick_nil (w : World) : Calls Tryz.prog 28 #[.pointer none] w fun e w' => e = .returned (.tuple #[]) ∧ w' = w := by
  go_enter Tryz.func28, Tryz.ntmps28
  go_wp2
  refine bodyPost_ret (v := .tuple #[]) (by simp [results, Tryz.results28, go_sem]) rfl ?_
  exact ⟨rfl, rfl⟩
theorem st_damage_nil (w : World) : Calls Tryz.prog 23 #[.pointer none] w fun e w' => e = .returned (.tuple #[]) ∧ w' = w := by
  go_enter Tryz.func23, Tryz.ntmps23
  go_wp2
  refine bodyPost_end (results_none rfl _ _ _) rfl ?_
  exact ⟨rfl, rfl⟩
theorem st_hear_nil (u : Array Value) (w : World) : Calls Tryz.prog 24 #[.pointer none, .agg u] w fun e w' => e = .returned (.tuple #[]) ∧ Below w.heap.size w w' := by
  go_enter Tryz.func24, Tryz.ntmps24
  go_wp2
  refine bodyPost_ret (v := .tuple #[]) (by simp [results, Tryz.results24, go_sem]) rfl ?_
  exact ⟨rfl, (Below.refl _ _).alloc (Nat.le_refl _) _⟩
theorem st_fail_nil (s : Int) (w : World) : Calls Tryz.prog 34 #[.pointer none, .int .u8 s] w fun e w' => e = .returned (.tuple #[]) ∧ w' = w := by
  go_enter Tryz.func34, Tryz.ntmps34
  go_wp2
  refine bodyPost_ret (v := .tuple #[]) (by simp [results, Tryz.results34, go_sem]) rfl ?_
  exact ⟨rfl, rfl⟩
theorem st_order_nil (u : Array Value) (w : World) : Calls Tryz.prog 27 #[.pointer none, .agg u] w fun e w' => e = .returned (.int .i64 2) ∧ Below w.heap.size w w' := by
  go_enter Tryz.func27, Tryz.ntmps27
  go_wp2
  go_ret
  exact ⟨rfl, (Below.refl _ _).alloc (Nat.le_refl _) _⟩
theorem st_told_nil (w : World) : Calls Tryz.prog 19 #[.pointer none] w fun e w' => e = .returned (.slice none 0 0) ∧ w' = w := by
  go_enter Tryz.func19, Tryz.ntmps19
  go_wp2
  go_ret
  exact ⟨rfl, rfl⟩
theorem st_fails_nil (w : World) : Calls Tryz.prog 20 #[.pointer none] w fun e w' => e = .returned (.int .i64 0) ∧ w' = w := by
  go_enter Tryz.func20, Tryz.ntmps20
  go_wp2
  go_ret
  exact ⟨rfl, rfl⟩
theorem st_wrong_nil (w : World) : Calls Tryz.prog 26 #[.pointer none] w fun e w' => e = .returned (.int .i64 0) ∧ w' = w := by
  go_enter Tryz.func26, Tryz.ntmps26
  go_wp2
  go_ret
  exact ⟨rfl, rfl⟩
theorem bdU (w : World) : (Instr.build 32 #[]).run Tryz.prog w = .ok (.agg #[.int .u8 0, .int .u8 0, .bool false, .bool false, .int .u8 0, .int .u8 0, .bool false, .slice none 0 0]) w := run_build w 32 #[] _ (by kernel_rfl)
attribute [local go_sem] bdU
set_option maxRecDepth 100000 in
set_option maxHeartbeats 1000000 in
theorem st_next_nil (w : World) : Calls Tryz.prog 21 #[.pointer none] w fun e w' => e = .returned (.agg #[.int .u8 0, .int .u8 0, .bool false, .bool false, .int .u8 0, .int .u8 0, .bool false, .slice none 0 0]) ∧ Below w.heap.size w w' := by
  obtain ⟨W, hW, hB, hh⟩ := new_unit w
  have hs9 := st_unit (ds := #[.int .u8 0, .int .u8 0, .bool false, .bool false, .int .u8 0, .int .u8 0, .bool false, .slice none 0 0]) hh rfl rfl (by simp [Value.oneCell'])
  have hl9 := (ld_unit (putU_heap (ds := #[.int .u8 0, .int .u8 0, .bool false, .bool false, .int .u8 0, .int .u8 0, .bool false, .slice none 0 0]) hh rfl) rfl).2
  have HL9 : Hid ((loadVar 32 ⟨w.heap.size, 0, none⟩).run Tryz.prog (putU W w.heap.size #[.int .u8 0, .int .u8 0, .bool false, .bool false, .int .u8 0, .int .u8 0, .bool false, .slice none 0 0]) = .ok (.agg #[.int .u8 0, .int .u8 0, .bool false, .bool false, .int .u8 0, .int .u8 0, .bool false, .slice none 0 0]) (putU W w.heap.size #[.int .u8 0, .int .u8 0, .bool false, .bool false, .int .u8 0, .int .u8 0, .bool false, .slice none 0 0])) := hl9
  have HB : Hid (Below w.heap.size w (putU W w.heap.size #[.int .u8 0, .int .u8 0, .bool false, .bool false, .int .u8 0, .int .u8 0, .bool false, .slice none 0 0])) := gb_below (putU_gb _ _ _) hB (Nat.le_refl _) hB.size
  clear hB hh hl9
  generalize putU W w.heap.size #[.int .u8 0, .int .u8 0, .bool false, .bool false, .int .u8 0, .int .u8 0, .bool false, .slice none 0 0] = W9 at *
  go_enter Tryz.func21, Tryz.ntmps21
  go_upto_region 1 with fail
  rw [← hW]
  clear hW
  go_wp2_with fail
  refine bodyPost_ret (v := .agg #[.int .u8 0, .int .u8 0, .bool false, .bool false, .int .u8 0, .int .u8 0, .bool false, .slice none 0 0]) (by simp [results, Tryz.results21, asAddr, HL9.out]) rfl ?_
  exact ⟨rfl, HB.out⟩

/-- A state's name. -/
def stnam (s : Int) : ByteArray := if s = 0 then ⟨#[111, 117, 116]⟩ else if s = 1 then ⟨#[97, 108, 105, 103, 110, 105, 110, 103]⟩ else if s = 2 then ⟨#[114, 101, 97, 100, 121]⟩ else if s = 3 then ⟨#[110, 111, 116, 114, 101, 97, 100, 121]⟩ else if s = 4 then ⟨#[115, 101, 114, 118, 105, 99, 101]⟩ else if s = 5 then ⟨#[104, 97, 108, 116, 101, 100]⟩ else ⟨#[]⟩

set_option maxRecDepth 100000 in
theorem stnam_any (s : Int) (h0 : 0 ≤ s) (h1 : s ≤ 255) (w : World) : Calls Tryz.prog 35 #[.int .u8 s] w fun e w' => e = .returned (.string (stnam s)) ∧ w' = w := by
  by_cases h : 6 ≤ s
  · have e : stnam s = ⟨#[]⟩ := by unfold stnam; rw [if_neg (by omega), if_neg (by omega), if_neg (by omega), if_neg (by omega), if_neg (by omega), if_neg (by omega)]
    rw [e]
    have b0 : (s == 0) = false := by rw [beq_eq_false_iff_ne]; omega
    have b1 : (s == 1) = false := by rw [beq_eq_false_iff_ne]; omega
    have b2 : (s == 2) = false := by rw [beq_eq_false_iff_ne]; omega
    have b3 : (s == 3) = false := by rw [beq_eq_false_iff_ne]; omega
    have b4 : (s == 4) = false := by rw [beq_eq_false_iff_ne]; omega
    have b5 : (s == 5) = false := by rw [beq_eq_false_iff_ne]; omega
    clear e h h0 h1
    go_enter Tryz.func35, Tryz.ntmps35
    go_wp2
    go_ret
    exact ⟨rfl, rfl⟩
  have : s = 0 ∨ s = 1 ∨ s = 2 ∨ s = 3 ∨ s = 4 ∨ s = 5 := by omega
  rcases this with rfl | rfl | rfl | rfl | rfl | rfl
  all_goals
    clear h h0 h1
    go_enter Tryz.func35, Tryz.ntmps35
    go_wp2
    go_ret
    exact ⟨rfl, rfl⟩
end Go.Proofs.YtldjglmelbkngaaGreat.Tape
