/- The jam laws' awake; a Jam that a law makes. -/
import Derived.Test.YteemfdbhcehfgaaJam1
import Derived.Test.YteemfdbhcehfgaaSetup2
namespace Go.Proofs.Yteemfdbhcehfgaa.Tape
open Go.ChangeShapes Go.WideShapes Go.ChangeAt Go.RowKit
set_option linter.unusedVariables false

/-- A new Jam of the usual setup. -/
def jaU : Ja := ja0 uT (List.replicate 8 0)

theorem jau_any (c : Nat) (w : World) (hc : ClockAt w c (List.replicate 8 0)) :
    Calls Try.prog 17 #[.agg #[.bool false, .int .i64 8, .int .i64 300, .int .i64 16, .int .i64 600, .int .i64 600, .int .i64 12000, .int .i64 8000, .int .i64 4000, .int .i64 1200, .int .i64 100, .int .i64 4000, .int .i64 6000], .pointer (some ⟨c, 0, none⟩)] w
      fun e w' => ∃ b, e = .returned (.pointer (some ⟨b, 0, none⟩)) ∧ w.heap.size ≤ b ∧ JamAt w' b c jaU ∧ Below w.heap.size w w' :=
  janew_any c false 8 300 16 600 uT (List.replicate 8 0) w hc uT_ok

set_option maxRecDepth 100000 in
set_option maxHeartbeats 1000000 in
theorem awake16_any (w : World) : Calls Try.prog 15 #[] w fun e w' => e = .returned (.bool true) ∧ Below w.heap.size w w' := by
  have hus := usual_any false w
  go_enter Try.func15, Try.ntmps15
  go_wp2_with (go_at_call 16; refine hus.mono ?_; rintro e w1 ⟨rfl, hB1⟩; have hc1 : ClockAt (w1.alloc (.cells #[.int .i64 0, .int .i64 0, .int .i64 0, .int .i64 0, .int .i64 0, .int .i64 0, .int .i64 0, .int .i64 0] 39)) w1.heap.size (List.replicate 8 0) := clock_new w1; have hB2 : Hid (Below w.heap.size w (w1.alloc (.cells #[.int .i64 0, .int .i64 0, .int .i64 0, .int .i64 0, .int .i64 0, .int .i64 0, .int .i64 0, .int .i64 0] 39))) := hB1.alloc hB1.size _; have hs1 := hB1.size; have hnw := jau_any _ _ hc1; clear hus hc1 hB1)
  refine hnw.mono ?_
  rintro e w3 ⟨b, rfl, hb, hA3, hB3⟩
  have HB3 : Hid (Below w.heap.size w w3) := hB2.out.trans (hB3.mono hB2.out.size)
  have HC : Hid (w.heap.size ≤ w1.heap.size ∧ w.heap.size ≤ b) := ⟨hs1, Nat.le_trans hB2.out.size hb⟩
  have hbe := begin_ja b _ _ w3 hA3
  clear hnw hA3 hB3 hb hs1
  go_wp2_with fail
  refine hbe.mono ?_
  rintro e w4 ⟨rfl, hA4, hF4⟩
  have HB4 : Hid (Below w.heap.size w w4) := HB3.out.trans (hF4.below HC.out.2 HC.out.1 HB3.out.size)
  have hh1 := due_ja b _ _ w4 hA4
  clear hbe hA4 hF4
  go_wp2_with fail
  refine hh1.mono ?_
  rintro e w5 ⟨rfl, hA5, hF5⟩
  have HB5 : Hid (Below w.heap.size w w5) := HB4.out.trans (hF5.below HC.out.2 HC.out.1 HB4.out.size)
  rw [show jaU.begin_.due = true from rfl]
  have hh2 := due_ja b _ _ w5 hA5
  rw [show jaU.begin_.told.due = false from rfl] at hh2
  clear hh1 hA5 hF5
  go_wp2_with fail
  refine hh2.mono ?_
  rintro e w6 ⟨rfl, hA6, hF6⟩
  have HB6 : Hid (Below w.heap.size w w6) := HB5.out.trans (hF6.below HC.out.2 HC.out.1 HB5.out.size)
  have c0 := hA6.all.1.1
  rw [show jaU.begin_.told.told.own = true from rfl] at c0
  clear hh2 hA6 hF6
  go_wp2
  go_ret
  exact ⟨rfl, HB6.out⟩

/-- A law's setup in memory, by its timers. -/
def setC (t : Nat → Int) : Array Value := #[.bool false, .int .i64 8, .int .i64 300, .int .i64 16, .int .i64 600, .int .i64 (t 0), .int .i64 (t 1), .int .i64 (t 2), .int .i64 (t 3), .int .i64 (t 4), .int .i64 (t 5), .int .i64 (t 6), .int .i64 (t 7)]

/-- A setup that a law makes, and a new clock. -/
theorem set_clock {w w2 : World} (hB : Below w.heap.size w w2) (t : Nat → Int) :
    Below w.heap.size w ((w2.alloc (.cells (setC t) 35)).alloc (.cells #[.int .i64 0, .int .i64 0, .int .i64 0, .int .i64 0, .int .i64 0, .int .i64 0, .int .i64 0, .int .i64 0] 39)) ∧
    ClockAt ((w2.alloc (.cells (setC t) 35)).alloc (.cells #[.int .i64 0, .int .i64 0, .int .i64 0, .int .i64 0, .int .i64 0, .int .i64 0, .int .i64 0, .int .i64 0] 39)) (w2.heap.size + 1) (List.replicate 8 0) ∧
    ((w2.alloc (.cells (setC t) 35)).alloc (.cells #[.int .i64 0, .int .i64 0, .int .i64 0, .int .i64 0, .int .i64 0, .int .i64 0, .int .i64 0, .int .i64 0] 39)).heap[w2.heap.size]? = some (.cells (setC t) 35 (0, 0)) ∧ w.heap.size ≤ w2.heap.size := by
  refine ⟨(hB.alloc hB.size _).alloc (by have := hB.size; simp; omega) _, ?_, heap_more (heap_alloc_new w2 _) _, hB.size⟩
  have := clock_new (w2.alloc (.cells (setC t) 35))
  rwa [show (w2.alloc (.cells (setC t) 35)).heap.size = w2.heap.size + 1 by simp] at this

theorem set_cell {w : World} {s : Nat} {t : Nat → Int} (h : w.heap[s]? = some (.cells (setC t) 35 (0, 0))) : w.cell? ⟨s, 10, none⟩ = some (.int .i64 (t 5)) ∧ w.cell? ⟨s, 11, none⟩ = some (.int .i64 (t 6)) := by
  constructor <;> rw [Lib.cell_of_heap h] <;> rfl

/-- What a law keeps while its Jam goes on: nothing that was there is written, nor its setup. -/
def Ke (w wr : World) (s : Nat) (t : Nat → Int) : Prop := Below w.heap.size w wr ∧ wr.heap[s]? = some (.cells (setC t) 35 (0, 0))
theorem Ke.fr {w w1 w2 : World} {s b c : Nat} {t : Nat → Int} (h : Ke w w1 s t) (hf : Fr b c w1 w2) (hb : w.heap.size ≤ b ∧ w.heap.size ≤ c ∧ s ≠ b ∧ s ≠ c) : Ke w w2 s t :=
  ⟨h.1.trans (hf.below hb.1 hb.2.1 h.1.size), (hf.block s (heap_lt h.2) hb.2.2.1 hb.2.2.2).trans h.2⟩
theorem Ke.below {w w1 w2 : World} {s : Nat} {t : Nat → Int} (h : Ke w w1 s t) (hf : Below w1.heap.size w1 w2) : Ke w w2 s t :=
  ⟨h.1.trans (hf.mono h.1.size), (hf.block s (heap_lt h.2)).trans h.2⟩
end Go.Proofs.Yteemfdbhcehfgaa.Tape
