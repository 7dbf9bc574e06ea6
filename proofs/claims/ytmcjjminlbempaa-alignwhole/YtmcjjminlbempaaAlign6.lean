/- The align laws' awake; an Align that a law makes. -/
import Derived.Test.YtmcjjminlbempaaAlign4
import Derived.Test.YtmcjjminlbempaaAlign5
import Derived.Test.YtmcjjminlbempaaSetup2
namespace Go.Proofs.Ytmcjjminlbempaa.Tape
open Go.ChangeShapes Go.WideShapes Go.ChangeAt Go.RowKit
set_option linter.unusedVariables false

/-- The usual timers. -/
def uT (k : Nat) : Int := [600, 12000, 8000, 4000, 1200, 100, 4000, 6000].getD k 1
theorem uT_ok (k : Nat) : 1 ≤ uT k ∧ uT k ≤ 4294967296 := by
  have : k = 0 ∨ k = 1 ∨ k = 2 ∨ k = 3 ∨ k = 4 ∨ k = 5 ∨ k = 6 ∨ k = 7 ∨ 8 ≤ k := by omega
  rcases this with rfl | rfl | rfl | rfl | rfl | rfl | rfl | rfl | h
  · decide
  · decide
  · decide
  · decide
  · decide
  · decide
  · decide
  · decide
  · have : uT k = 1 := by unfold uT; rw [List.getD_eq_getElem?_getD, List.getElem?_eq_none (by simpa using h)]; rfl
    rw [this]; decide

/-- A new Align of the usual setup. -/
def alU : Al := al0 uT (List.replicate 8 0)

theorem alu_any (c : Nat) (w : World) (hc : ClockAt w c (List.replicate 8 0)) :
    Calls Try.prog 10 #[.agg #[.bool false, .int .i64 8, .int .i64 300, .int .i64 16, .int .i64 600, .int .i64 600, .int .i64 12000, .int .i64 8000, .int .i64 4000, .int .i64 1200, .int .i64 100, .int .i64 4000, .int .i64 6000], .pointer (some ⟨c, 0, none⟩)] w
      fun e w' => ∃ b, e = .returned (.pointer (some ⟨b, 0, none⟩)) ∧ w.heap.size ≤ b ∧ AlignAt w' b c alU ∧ Below w.heap.size w w' :=
  alnew_any c false 8 300 16 600 uT (List.replicate 8 0) w hc uT_ok

set_option maxRecDepth 100000 in
set_option maxHeartbeats 1000000 in
theorem awake14_any (w : World) : Calls Try.prog 8 #[] w fun e w' => e = .returned (.bool true) ∧ Below w.heap.size w w' := by
  have hus := usual_any false w
  go_enter Try.func8, Try.ntmps8
  go_wp2_with (go_at_call 9; refine hus.mono ?_; rintro e w1 ⟨rfl, hB1⟩; have hc1 : ClockAt (w1.alloc (.cells #[.int .i64 0, .int .i64 0, .int .i64 0, .int .i64 0, .int .i64 0, .int .i64 0, .int .i64 0, .int .i64 0] 30)) w1.heap.size (List.replicate 8 0) := clock_new w1; have hB2 : Hid (Below w.heap.size w (w1.alloc (.cells #[.int .i64 0, .int .i64 0, .int .i64 0, .int .i64 0, .int .i64 0, .int .i64 0, .int .i64 0, .int .i64 0] 30))) := hB1.alloc hB1.size _; have hs1 := hB1.size; have hnw := alu_any _ _ hc1; clear hus hc1 hB1)
  refine hnw.mono ?_
  rintro e w3 ⟨b, rfl, hb, hA3, hB3⟩
  have HB3 : Hid (Below w.heap.size w w3) := hB2.out.trans (hB3.mono hB2.out.size)
  have HC : Hid (w.heap.size ≤ w1.heap.size ∧ w.heap.size ≤ b) := ⟨hs1, Nat.le_trans hB2.out.size hb⟩
  have hbe := begin_al b _ _ w3 hA3
  clear hnw hA3 hB3 hb hs1
  go_wp2_with (go_at_call 12; refine hbe.mono ?_; rintro e w4 ⟨rfl, hA4, hF4⟩; have HB4 : Hid (Below w.heap.size w w4) := HB3.out.trans (hF4.below HC.out.2 HC.out.1 HB3.out.size); have hh1 := heard_al b _ _ 0 (by decide) w4 hA4; clear hbe hA4 hF4)
  refine hh1.mono ?_
  rintro e w5 ⟨rfl, hA5, hF5⟩
  have HB5 : Hid (Below w.heap.size w w5) := HB4.out.trans (hF5.below HC.out.2 HC.out.1 HB4.out.size)
  have hh2 := heard_al b _ _ 1 (by decide) w5 hA5
  clear hh1 hA5 hF5
  go_wp2_with (go_at_call 13; refine hh2.mono ?_; rintro e w6 ⟨rfl, hA6, hF6⟩; have HB6 : Hid (Below w.heap.size w w6) := HB5.out.trans (hF6.below HC.out.2 HC.out.1 HB5.out.size); have c0 := hA6.all.1.1; rw [show ((alU.begin_.heard 0).heard 1).st = 3 from by decide] at c0; clear hh2 hA6 hF6)
  go_ret
  exact ⟨rfl, HB6.out⟩
end Go.Proofs.Ytmcjjminlbempaa.Tape
