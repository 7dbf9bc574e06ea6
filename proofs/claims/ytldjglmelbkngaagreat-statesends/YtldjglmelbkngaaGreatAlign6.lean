/- The align laws' awake; an Align that a law makes. -/
import Derived.Test.YtldjglmelbkngaaGreatAlign4
import Derived.Test.YtldjglmelbkngaaGreatAlign5
import Derived.Test.YtldjglmelbkngaaGreatSetup2
namespace Go.Proofs.YtldjglmelbkngaaGreat.Tape
open Go.ChangeShapes Go.WideShapes Go.ChangeAt Go.RowKit
set_option linter.unusedVariables false

/-- A new Align of the usual setup. -/
def alU : Al := al0 uT (List.replicate 8 0)

theorem alu_any (c : Nat) (w : World) (hc : ClockAt w c (List.replicate 8 0)) :
    Calls Tryz.prog 37 #[.agg #[.bool false, .int .i64 8, .int .i64 300, .int .i64 16, .int .i64 600, .int .i64 600, .int .i64 12000, .int .i64 8000, .int .i64 4000, .int .i64 1200, .int .i64 100, .int .i64 4000, .int .i64 6000], .pointer (some ⟨c, 0, none⟩)] w
      fun e w' => ∃ b, e = .returned (.pointer (some ⟨b, 0, none⟩)) ∧ w.heap.size ≤ b ∧ AlignAt w' b c alU ∧ Below w.heap.size w w' :=
  alnew_any c false 8 300 16 600 uT (List.replicate 8 0) w hc uT_ok

end Go.Proofs.YtldjglmelbkngaaGreat.Tape
