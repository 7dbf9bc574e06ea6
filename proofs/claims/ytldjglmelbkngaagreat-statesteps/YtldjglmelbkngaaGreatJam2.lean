/- The jam laws' awake; a Jam that a law makes. -/
import Derived.Test.YtldjglmelbkngaaGreatJam1
import Derived.Test.YtldjglmelbkngaaGreatSetup2
namespace Go.Proofs.YtldjglmelbkngaaGreat.Tape
open Go.ChangeShapes Go.WideShapes Go.ChangeAt Go.RowKit
set_option linter.unusedVariables false

/-- A new Jam of the usual setup. -/
def jaU : Ja := ja0 uT (List.replicate 8 0)

theorem jau_any (c : Nat) (w : World) (hc : ClockAt w c (List.replicate 8 0)) :
    Calls Tryz.prog 38 #[.agg #[.bool false, .int .i64 8, .int .i64 300, .int .i64 16, .int .i64 600, .int .i64 600, .int .i64 12000, .int .i64 8000, .int .i64 4000, .int .i64 1200, .int .i64 100, .int .i64 4000, .int .i64 6000], .pointer (some ⟨c, 0, none⟩)] w
      fun e w' => ∃ b, e = .returned (.pointer (some ⟨b, 0, none⟩)) ∧ w.heap.size ≤ b ∧ JamAt w' b c jaU ∧ Below w.heap.size w w' :=
  janew_any c false 8 300 16 600 uT (List.replicate 8 0) w hc uT_ok

/-- A law's setup in memory, by its timers. -/
def setC (t : Nat → Int) : Array Value := #[.bool false, .int .i64 8, .int .i64 300, .int .i64 16, .int .i64 600, .int .i64 (t 0), .int .i64 (t 1), .int .i64 (t 2), .int .i64 (t 3), .int .i64 (t 4), .int .i64 (t 5), .int .i64 (t 6), .int .i64 (t 7)]

/-- A setup that a law makes, and a new clock. -/
theorem set_clock {w w2 : World} (hB : Below w.heap.size w w2) (t : Nat → Int) :
    Below w.heap.size w ((w2.alloc (.cells (setC t) 28)).alloc (.cells #[.int .i64 0, .int .i64 0, .int .i64 0, .int .i64 0, .int .i64 0, .int .i64 0, .int .i64 0, .int .i64 0] 82)) ∧
    ClockAt ((w2.alloc (.cells (setC t) 28)).alloc (.cells #[.int .i64 0, .int .i64 0, .int .i64 0, .int .i64 0, .int .i64 0, .int .i64 0, .int .i64 0, .int .i64 0] 82)) (w2.heap.size + 1) (List.replicate 8 0) ∧
    ((w2.alloc (.cells (setC t) 28)).alloc (.cells #[.int .i64 0, .int .i64 0, .int .i64 0, .int .i64 0, .int .i64 0, .int .i64 0, .int .i64 0, .int .i64 0] 82)).heap[w2.heap.size]? = some (.cells (setC t) 28 (0, 0)) ∧ w.heap.size ≤ w2.heap.size := by
  refine ⟨(hB.alloc hB.size _).alloc (by have := hB.size; simp; omega) _, ?_, heap_more (heap_alloc_new w2 _) _, hB.size⟩
  have := clock_new (w2.alloc (.cells (setC t) 28))
  rwa [show (w2.alloc (.cells (setC t) 28)).heap.size = w2.heap.size + 1 by simp] at this

theorem set_cell {w : World} {s : Nat} {t : Nat → Int} (h : w.heap[s]? = some (.cells (setC t) 28 (0, 0))) : w.cell? ⟨s, 10, none⟩ = some (.int .i64 (t 5)) ∧ w.cell? ⟨s, 11, none⟩ = some (.int .i64 (t 6)) := by
  constructor <;> rw [Lib.cell_of_heap h] <;> rfl

/-- What a law keeps while its Jam goes on: nothing that was there is written, nor its setup. -/
def Ke (w wr : World) (s : Nat) (t : Nat → Int) : Prop := Below w.heap.size w wr ∧ wr.heap[s]? = some (.cells (setC t) 28 (0, 0))
theorem Ke.fr {w w1 w2 : World} {s b c : Nat} {t : Nat → Int} (h : Ke w w1 s t) (hf : Fr b c w1 w2) (hb : w.heap.size ≤ b ∧ w.heap.size ≤ c ∧ s ≠ b ∧ s ≠ c) : Ke w w2 s t :=
  ⟨h.1.trans (hf.below hb.1 hb.2.1 h.1.size), (hf.block s (heap_lt h.2) hb.2.2.1 hb.2.2.2).trans h.2⟩
theorem Ke.below {w w1 w2 : World} {s : Nat} {t : Nat → Int} (h : Ke w w1 s t) (hf : Below w1.heap.size w1 w2) : Ke w w2 s t :=
  ⟨h.1.trans (hf.mono h.1.size), (hf.block s (heap_lt h.2)).trans h.2⟩
end Go.Proofs.YtldjglmelbkngaaGreat.Tape
