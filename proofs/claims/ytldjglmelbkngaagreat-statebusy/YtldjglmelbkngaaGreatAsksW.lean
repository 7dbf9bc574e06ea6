/- BasicAsks' walk. -/
import Derived.Test.YtldjglmelbkngaaGreatBasic7
import Derived.Test.YtldjglmelbkngaaGreatBasic5
namespace Go.Proofs.YtldjglmelbkngaaGreat.Tape
open Go.ChangeShapes Go.WideShapes Go.ChangeAt Go.RowKit
set_option linter.unusedVariables false

/-- So many were taken. -/
def bsA (j : Nat) : Bs := { bs0 with last := ((j : Int) + 127) % 128 }
/-- .. and one is asked for again. -/
def bsB (j : Nat) : Bs := { bs0 with last := ((j : Int) + 127) % 128, bib := false, ask := true }

/-- A text in memory that is never written. -/
theorem text3 (w : World) (a b c : Int) : ∃ W, W = w.alloc (.cells #[.int .u8 a, .int .u8 b, .int .u8 c] 5 (3, 4)) ∧ Below w.heap.size w W ∧ Reads W (some ⟨w.heap.size, 0, none⟩) (([a, b, c] : List Int).map (.int .u8)) ∧ w.heap.size < W.heap.size ∧ (convert 30 30 (.slice (some ⟨w.heap.size, 0, none⟩) 3 3)).run Tryz.prog (w.alloc (.cells #[.int .u8 a, .int .u8 b, .int .u8 c] 5)) = .ok (.slice (some ⟨w.heap.size, 0, none⟩) 3 3) (w.alloc (.cells #[.int .u8 a, .int .u8 b, .int .u8 c] 5 (3, 4))) := by
  have kc := Lib.run_convert_bytes_const (P := Tryz.prog) w 30 5 (([a, b, c] : List Int).map (Value.int .u8)).toArray 3 3 Tryz.underlying30 Tryz.underlying5
  simp only [List.map_cons, List.map_nil, List.size_toArray, List.length_cons, List.length_nil] at kc
  exact ⟨_, rfl, (Below.refl _ _).alloc (Nat.le_refl _) _, reads_lit w [a, b, c] (3, 4), by simp, kc⟩

/-- A unit's BIB. -/
theorem field_bib (b f : Int) (bib fib : Bool) (k : Int) (x : Value) (w : World) : (Instr.field 32 (.agg #[.int .u8 b, .int .u8 f, .bool bib, .bool fib, .int .u8 k, .int .u8 0, .bool false, x]) 2).run Tryz.prog w = .ok (.bool bib) w := by
  show _ = _
  kernel_rfl

end Go.Proofs.YtldjglmelbkngaaGreat.Tape
