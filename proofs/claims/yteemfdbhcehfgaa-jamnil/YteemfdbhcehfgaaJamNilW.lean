/- The walk of the law JamNil. -/
import Derived.Test.YteemfdbhcehfgaaJam2
namespace Go.Proofs.Yteemfdbhcehfgaa.Tape
open Go.ChangeShapes Go.WideShapes Go.ChangeAt Go.RowKit
set_option linter.unusedVariables false

set_option maxRecDepth 100000 in
set_option maxHeartbeats 1000000 in
theorem jamnil_walk (wt : Bool) (k : Int) (w : World) : Calls Try.prog 8 #[.bool wt, .int .i64 k] w fun e w' => e = .returned (.bool true) ∧ Below w.heap.size w w' := by
  go_enter Try.func8, Try.ntmps8
  go_wp2_with (first
    | (go_at_call 18; refine (ja_begin_nil w).mono ?_; rintro e w4 ⟨rfl, hw4⟩; obtain rfl := hw4.symm; clear hw4)
    | (go_at_call 19; refine (ja_end_nil w).mono ?_; rintro e w4 ⟨rfl, hw4⟩; obtain rfl := hw4.symm; clear hw4)
    | (go_at_call 23; refine (ja_clear_nil w).mono ?_; rintro e w4 ⟨rfl, hw4⟩; obtain rfl := hw4.symm; clear hw4)
    | (go_at_call 15; refine (awake16_any w).mono ?_; rintro e w3 ⟨rfl, hb3⟩)
    | (go_at_call 20; refine (ja_due_nil w3).mono ?_; rintro e w4 ⟨rfl, hw4⟩; obtain rfl := hw4.symm; clear hw4)
    | (go_at_call 21; refine (ja_heard_nil wt w3).mono ?_; rintro e w4 ⟨rfl, hw4⟩; obtain rfl := hw4.symm; clear hw4)
    | (go_at_call 22; refine (ja_answer_nil w3).mono ?_; rintro e w4 ⟨rfl, hw4⟩; obtain rfl := hw4.symm; clear hw4)
    | (go_at_call 25; refine (ja_out_nil k w3).mono ?_; rintro e w4 ⟨rfl, hw4⟩; obtain rfl := hw4.symm; clear hw4))
  go_ret
  exact ⟨rfl, hb3⟩
end Go.Proofs.Yteemfdbhcehfgaa.Tape
