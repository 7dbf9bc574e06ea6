/- The walk of the law AlignNil. -/
import Derived.Test.YtmcjjminlbempaaAlign6
namespace Go.Proofs.Ytmcjjminlbempaa.Tape
open Go.ChangeShapes Go.WideShapes Go.ChangeAt Go.RowKit
set_option linter.unusedVariables false

set_option maxRecDepth 100000 in
set_option maxHeartbeats 1000000 in
theorem alnil_walk (s : Int) (wr : Bool) (k : Int) (w : World) : Calls Try.prog 5 #[.int .u8 s, .bool wr, .int .i64 k] w fun e w' => e = .returned (.bool true) ∧ Below w.heap.size w w' := by
  go_enter Try.func5, Try.ntmps5
  go_wp2_with (first
    | (go_at_call 12; refine (al_begin_nil w).mono ?_; rintro e w4 ⟨rfl, hw4⟩; obtain rfl := hw4.symm; clear hw4)
    | (go_at_call 19; refine (al_end_nil w).mono ?_; rintro e w4 ⟨rfl, hw4⟩; obtain rfl := hw4.symm; clear hw4)
    | (go_at_call 11; refine (al_hurry_nil wr w).mono ?_; rintro e w4 ⟨rfl, hw4⟩; obtain rfl := hw4.symm; clear hw4)
    | (go_at_call 17; refine (al_out_nil k w).mono ?_; rintro e w4 ⟨rfl, hw4⟩; obtain rfl := hw4.symm; clear hw4)
    | (go_at_call 8; refine (awake14_any w).mono ?_; rintro e w3 ⟨rfl, hb3⟩)
    | (go_at_call 13; refine (al_heard_nil s w3).mono ?_; rintro e w4 ⟨rfl, hw4⟩; obtain rfl := hw4.symm; clear hw4)
    | (go_at_call 15; refine (al_unit_nil wr w3).mono ?_; rintro e w4 ⟨rfl, hw4⟩; obtain rfl := hw4.symm; clear hw4)
    | (go_at_call 18; refine (al_sends_nil w3).mono ?_; rintro e w4 ⟨rfl, hw4⟩; obtain rfl := hw4.symm; clear hw4)
    | (go_at_call 14; refine (al_tries_nil w3).mono ?_; rintro e w4 ⟨rfl, hw4⟩; obtain rfl := hw4.symm; clear hw4))
  go_ret
  exact ⟨rfl, hb3⟩
end Go.Proofs.Ytmcjjminlbempaa.Tape
