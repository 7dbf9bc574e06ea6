/- CyclicLoses, where the list is too long: the law passes it by. -/
import Derived.Test.YtmnhciildlmjcaaCyc8
namespace Go.Proofs.Ytmnhciildlmjcaa.Tape
open Go.ChangeShapes Go.WideShapes Go.ChangeAt Go.RowKit
set_option linter.unusedVariables false

set_option maxRecDepth 100000 in
set_option maxHeartbeats 1000000 in
theorem loses_long (x z1 z2 y : Int) (a : Option Addr) (len cap : Nat) (w : World) (hl : 60 < len) (hm : len ≤ maxLen) :
    Calls Try.prog 4 #[.int .u8 x, .int .u8 z1, .int .u8 z2, .slice a len cap, .int .u8 y] w fun e w' => e = .returned (.bool true) ∧ Below w.heap.size w w' := by
  unfold maxLen at hm
  go_enter Try.func4, Try.ntmps4
  go_wp2_with fail
  refine (awake12_any _).mono ?_
  rintro e w1 ⟨rfl, hB1⟩
  go_wp2_with fail
  refine (awake12_any _).mono ?_
  rintro e w2 ⟨rfl, hB2⟩
  go_wp2
  go_ret
  exact ⟨rfl, hB1.trans (below_le hB2 hB1.size)⟩
end Go.Proofs.Ytmnhciildlmjcaa.Tape
