/- A Cyclic in memory; the contracts of an Odd's See, of a Cyclic's Hold, Taken, Resends, fits, tooMuch. -/
import Derived.Test.YtldjglmelbkngaaGreatBasic7
namespace Go.Proofs.YtldjglmelbkngaaGreat.Tape
open Go.ChangeShapes Go.WideShapes Go.ChangeAt Go.RowKit
set_option linter.unusedVariables false

/-- What a Cyclic has beside its Hold. -/
structure Cs where
  n1 : Int
  n2 : Int
  last : Int
  pl : Nat
  force : Bool
  b0 : Bool
  b1 : Bool

/-- A Cyclic's cells. -/
def cycC (hb : Nat) (t : Cs) : Array Value := #[.pointer (some ⟨hb, 0, none⟩), .int .i64 t.n1, .int .i64 t.n2, .int .u8 t.last, .int .i64 t.pl, .bool t.force, .bool t.b0, .bool t.b1]

/-- A Cyclic in memory: its block p, its Hold's block hb. -/
structure CycIn (w : World) (p hb B : Nat) (T0 : Nat → Prop) (t : Cs) (s : Hs) : Prop where
  cells : w.heap[p]? = some (.cells (cycC hb t) 127 (0, 0))
  hold : HoldAt w hb B T0 s
  lowp : B ≤ p
  lowh : B ≤ hb
  last : 0 ≤ t.last ∧ t.last ≤ 255
  pl : t.pl ≤ 128

/-- .. its blocks in T. -/
def CycAt (w : World) (p B : Nat) (T : Nat → Prop) (t : Cs) (s : Hs) : Prop := ∃ hb T0, T = (fun g => g = p ∨ T0 g) ∧ CycIn w p hb B T0 t s

theorem CycIn.apart {w : World} {p hb B : Nat} {T0 : Nat → Prop} {t : Cs} {s : Hs} (h : CycIn w p hb B T0 t s) : ¬ T0 p := fun e => by
  obtain ⟨cur, t, hh, ht⟩ := h.hold.kind p e
  rw [h.cells] at hh
  simp only [Option.some.injEq, Obj.cells.injEq] at hh
  rcases ht with rfl | rfl <;> exact absurd hh.2.1 (by decide)

theorem CycAt.kind {w : World} {p B : Nat} {T : Nat → Prop} {t : Cs} {s : Hs} (h : CycAt w p B T t s) : ∀ g, T g → ∃ cur t, w.heap[g]? = some (.cells cur t (0, 0)) ∧ (t = 127 ∨ t = 99 ∨ t = 30) := by
  obtain ⟨hb, T0, rfl, h⟩ := h
  rintro g (rfl | e)
  · exact ⟨_, _, h.cells, .inl rfl⟩
  · obtain ⟨cur, t, hh, ht⟩ := h.hold.kind g e
    exact ⟨cur, t, hh, .inr ht⟩

theorem CycAt.stay {w w' : World} {p B : Nat} {T : Nat → Prop} {t : Cs} {s : Hs} (h : CycAt w p B T t s) (hT : ∀ k, T k → w'.heap[k]? = w.heap[k]?) (h5 : ∀ (k : Nat) cur, w.heap[k]? = some (.cells cur 5 (0, 0)) → w'.heap[k]? = w.heap[k]?) : CycAt w' p B T t s := by
  obtain ⟨hb, T0, rfl, h⟩ := h
  exact ⟨hb, T0, rfl, (hT p (.inl rfl)).trans h.cells, h.hold.stay (fun k hk => hT k (.inr hk)) h5, h.lowp, h.lowh, h.last, h.pl⟩

theorem CycAt.lt {w : World} {p B : Nat} {T : Nat → Prop} {t : Cs} {s : Hs} (h : CycAt w p B T t s) : ∀ g, T g → B ≤ g ∧ g < w.heap.size := by
  obtain ⟨hb, T0, rfl, h⟩ := h
  rintro g (rfl | e)
  · exact ⟨h.lowp, heap_lt h.cells⟩
  · exact ⟨h.hold.base h.lowh (Nat.le_refl _) g e, (h.hold.mine g e).2⟩

theorem CycIn.at_ {w : World} {p hb B : Nat} {T0 : Nat → Prop} {t : Cs} {s : Hs} (h : CycIn w p hb B T0 t s) : CycAt w p B (fun g => g = p ∨ T0 g) t s := ⟨hb, T0, rfl, h⟩
theorem CycIn.below {w w' : World} {p hb B : Nat} {T0 : Nat → Prop} {t : Cs} {s : Hs} (h : CycIn w p hb B T0 t s) (hB : Below w.heap.size w w') : CycIn w' p hb B T0 t s := ⟨(hB.block p (heap_lt h.cells)).trans h.cells, h.hold.below hB, h.lowp, h.lowh, h.last, h.pl⟩

theorem CycAt.not {w : World} {p B : Nat} {T : Nat → Prop} {t : Cs} {s : Hs} (h : CycAt w p B T t s) : ∀ (g : Nat) cur ty, w.heap[g]? = some (.cells cur ty (0, 0)) → ty ≠ 127 → ty ≠ 99 → ty ≠ 30 → ¬ T g := fun g cur ty hg h1 h2 h3 e => by
  obtain ⟨cur', t, hh, ht⟩ := h.kind g e
  rw [hg] at hh
  simp only [Option.some.injEq, Obj.cells.injEq] at hh
  obtain ⟨-, rfl, -⟩ := hh
  rcases ht with e | e | e
  · exact h1 e
  · exact h2 e
  · exact h3 e
theorem CycAt.not5 {w : World} {p B : Nat} {T : Nat → Prop} {t : Cs} {s : Hs} (h : CycAt w p B T t s) : ∀ (g : Nat) cur, w.heap[g]? = some (.cells cur 5 (0, 0)) → ¬ T g := fun g cur hg => h.not g cur 5 hg (by decide) (by decide) (by decide)
theorem CycAt.not37 {w : World} {p B : Nat} {T : Nat → Prop} {t : Cs} {s : Hs} (h : CycAt w p B T t s) : ∀ (g : Nat) cur, w.heap[g]? = some (.cells cur 32 (0, 0)) → ¬ T g := fun g cur hg => h.not g cur 32 hg (by decide) (by decide) (by decide)

/-- A step of its Hold. -/
theorem CycIn.step {w w' : World} {p hb B : Nat} {T0 T0' : Nat → Prop} {t : Cs} {s s' : Hs} (h : CycIn w p hb B T0 t s) (hat : HoldAt w' hb B T0' s') (hf : Foot T0 T0' w w') : CycIn w' p hb B T0' t s' ∧ Foot (fun g => g = p ∨ T0 g) (fun g => g = p ∨ T0' g) w w' :=
  ⟨⟨(hf.block p (heap_lt h.cells) h.apart).trans h.cells, hat, h.lowp, h.lowh, h.last, h.pl⟩, hf.os, hf.tape, hf.output, hf.size, fun k hk hn => hf.block k hk (fun e => hn (.inr e)), fun g hg => by
    rcases hg with e | e
    · exact .inl (.inl e)
    · exact (hf.moved g e).imp .inr id⟩

/-- Its own cells are written. -/
theorem CycIn.set {w w' : World} {p hb B : Nat} {T0 : Nat → Prop} {t t' : Cs} {s : Hs} (h : CycIn w p hb B T0 t s) (hg : w.grownBy w' (some p)) (hc : w'.heap[p]? = some (.cells (cycC hb t') 127 (0, 0))) (hl : 0 ≤ t'.last ∧ t'.last ≤ 255) (ha : t'.pl ≤ 128) :
    CycIn w' p hb B T0 t' s ∧ Foot (fun g => g = p ∨ T0 g) (fun g => g = p ∨ T0 g) w w' := by
  have hap := h.apart
  have hk : ∀ k, k ≠ p → k < w.heap.size → w'.heap[k]? = w.heap[k]? := fun k hk hlt => hg.block k hlt (fun e => hk (by simpa using e))
  refine ⟨⟨hc, h.hold.stay (fun k hk' => hk k (fun e => hap (e ▸ hk')) (h.hold.mine k hk').2) (fun k cur hk' => hk k (fun e => ?_) (heap_lt hk')), h.lowp, h.lowh, hl, ha⟩, hg.os, hg.tape, hg.output, hg.size, fun k hlt hn => hk k (fun e => hn (.inl e)) hlt, fun g hg => .inl hg⟩
  subst e
  rw [h.cells] at hk'
  simp only [Option.some.injEq, Obj.cells.injEq] at hk'
  exact absurd hk'.2.1 (by decide)

theorem cyc_cells {w : World} {p hb : Nat} {t : Cs} (h : w.heap[p]? = some (.cells (cycC hb t) 127 (0, 0))) :
    (w.cell? ⟨p, 0, none⟩ = some (.pointer (some ⟨hb, 0, none⟩)) ∧ w.cell? ⟨p, 1, none⟩ = some (.int .i64 t.n1) ∧ w.cell? ⟨p, 2, none⟩ = some (.int .i64 t.n2) ∧ w.cell? ⟨p, 3, none⟩ = some (.int .u8 t.last) ∧ w.cell? ⟨p, 4, none⟩ = some (.int .i64 t.pl) ∧ w.cell? ⟨p, 5, none⟩ = some (.bool t.force) ∧ w.cell? ⟨p, 6, none⟩ = some (.bool t.b0) ∧ w.cell? ⟨p, 7, none⟩ = some (.bool t.b1)) ∧
    ∀ k, w.frozen? ⟨p, k, none⟩ = false := by
  unfold cycC at h
  refine ⟨⟨?_, ?_, ?_, ?_, ?_, ?_, ?_, ?_⟩, Lib.frozen_of_heap h⟩ <;> rw [Lib.cell_of_heap h] <;> rfl

/-- A Cyclic's cells as a list, to be written by row_set. -/
def cycL (hb : Nat) (t : Cs) : List Value := [.pointer (some ⟨hb, 0, none⟩), .int .i64 t.n1, .int .i64 t.n2, .int .u8 t.last, .int .i64 t.pl, .bool t.force, .bool t.b0, .bool t.b1]
theorem cyc_row {w : World} {p hb : Nat} {t : Cs} (h : w.heap[p]? = some (.cells (cycC hb t) 127 (0, 0))) : w.heap[p]? = some (.cells (cycL hb t).toArray 127 (0, 0)) := h

set_option maxRecDepth 100000 in
set_option maxHeartbeats 400000 in
theorem chold_any (p hb B : Nat) (T0 : Nat → Prop) (t : Cs) (s : Hs) (w : World) (h : CycIn w p hb B T0 t s) : Calls Tryz.prog 132 #[.pointer (some ⟨p, 0, none⟩)] w fun e w' => e = .returned (.pointer (some ⟨hb, 0, none⟩)) ∧ w' = w := by
  obtain ⟨⟨c0, -⟩, -⟩ := cyc_cells h.cells
  clear h
  go_enter Tryz.func132, Tryz.ntmps132
  go_wp2
  go_ret
  exact ⟨rfl, rfl⟩

set_option maxRecDepth 100000 in
set_option maxHeartbeats 400000 in
theorem ctaken_any (p hb B : Nat) (T0 : Nat → Prop) (t : Cs) (s : Hs) (w : World) (h : CycIn w p hb B T0 t s) : Calls Tryz.prog 136 #[.pointer (some ⟨p, 0, none⟩)] w fun e w' => e = .returned (.int .u8 t.last) ∧ w' = w := by
  obtain ⟨⟨-, -, -, c3, -⟩, -⟩ := cyc_cells h.cells
  clear h
  go_enter Tryz.func136, Tryz.ntmps136
  go_wp2
  go_ret
  exact ⟨rfl, rfl⟩

/-- May one more wait? -/
def Cs.fits (t : Cs) (s : Hs) : Bool := decide (s.sent.length = 0) || (decide ((s.sent.length : Int) < t.n1) && decide (((sz s.sent + s.size : Nat) : Int) ≤ t.n2))
/-- Is there a new one that doesn't fit? -/
def Cs.much (t : Cs) (s : Hs) : Bool := decide (0 < s.next.length) && !t.fits s

set_option maxRecDepth 100000 in
set_option maxHeartbeats 1000000 in
theorem fits_any (p hb B : Nat) (T0 : Nat → Prop) (t : Cs) (s : Hs) (w : World) (h : CycIn w p hb B T0 t s) : Calls Tryz.prog 150 #[.pointer (some ⟨p, 0, none⟩)] w fun e w' => e = .returned (.bool (t.fits s)) ∧ ∃ q, w' = w.drewN q := by
  have hwin := h.hold.fine.win
  have hnu := h.hold.fine.nums
  have hse := sent_any hb B T0 s w h.hold
  have hwa := fun q => waiting_any hb B T0 s (w.drewN q) (h.hold.drewN q)
  have hsi := fun q => size_any hb B T0 s (w.drewN q) (h.hold.drewN q)
  have hsz : s.size ≤ 1000 := by
    obtain ⟨sv, nv, -, hi⟩ := h.hold
    obtain ⟨us, -, h1⟩ := hi.next
    unfold Hs.size
    split
    · omega
    · rename_i x xs hx
      rw [hx] at h1
      match us, h1 with
      | u :: us, h1 => have := h1.1.2.2.1; omega
  obtain ⟨⟨c0, c1, c2, -⟩, -⟩ := cyc_cells h.cells
  clear h
  have HF : Hid (t.fits s = (decide (s.sent.length = 0) || (decide ((s.sent.length : Int) < t.n1) && decide (((sz s.sent + s.size : Nat) : Int) ≤ t.n2)))) := rfl
  generalize t.fits s = F at *
  generalize s.sent.length = n at *
  generalize sz s.sent = x at *
  generalize s.size = y at *
  obtain ⟨-, hx, -, -⟩ := hnu
  have e1 : ((x + y : Nat) : Int) = (x : Int) + y := by omega
  have e2 : IntKind.i64.wrap ((x : Int) + y) = (x : Int) + y := wrap_small _ (by omega) (by omega)
  by_cases h0 : n = 0
  · subst h0
    have HG : Hid (true = F) := by show _ = _; rw [HF.out]; rfl
    go_enter Tryz.func150, Tryz.ntmps150
    go_wp2_with (first | (go_at_call 29; refine hse.mono ?_; rintro e w1 ⟨rfl, hw1⟩; obtain rfl := hw1.symm; clear hw1))
    go_quiet (first | (go_at_call 155; exact Calls.quiet_of_same (hwa _)) | (go_at_call 156; exact Calls.quiet_of_same (hsi _)))
    go_wp2
    go_ret
    exact ⟨ret_bool HG.out, _, rfl⟩
  · have d0 : ((n : Int) == 0) = false := by rw [beq_eq_false_iff_ne]; omega
    by_cases h1 : (n : Int) < t.n1
    · have HG : Hid (decide ((x : Int) + y ≤ t.n2) = F) := by show _ = _; rw [HF.out, decide_eq_true h1, e1, decide_eq_false h0]; simp
      go_enter Tryz.func150, Tryz.ntmps150
      go_wp2_with (first | (go_at_call 29; refine hse.mono ?_; rintro e w1 ⟨rfl, hw1⟩; obtain rfl := hw1.symm; clear hw1))
      go_quiet (first | (go_at_call 155; exact Calls.quiet_of_same (hwa _)) | (go_at_call 156; exact Calls.quiet_of_same (hsi _)))
      go_wp2
      go_ret
      exact ⟨ret_bool HG.out, _, rfl⟩
    · have HG : Hid (false = F) := by show _ = _; rw [HF.out, decide_eq_false h1, decide_eq_false h0]; rfl
      have d1 : decide ((n : Int) < t.n1) = false := decide_eq_false h1
      go_enter Tryz.func150, Tryz.ntmps150
      go_wp2_with (first | (go_at_call 29; refine hse.mono ?_; rintro e w1 ⟨rfl, hw1⟩; obtain rfl := hw1.symm; clear hw1))
      go_quiet (first | (go_at_call 155; exact Calls.quiet_of_same (hwa _)) | (go_at_call 156; exact Calls.quiet_of_same (hsi _)))
      go_wp2
      go_ret
      exact ⟨ret_bool HG.out, _, rfl⟩

set_option maxRecDepth 100000 in
set_option maxHeartbeats 1000000 in
theorem much_any (p hb B : Nat) (T0 : Nat → Prop) (t : Cs) (s : Hs) (w : World) (h : CycIn w p hb B T0 t s) : Calls Tryz.prog 141 #[.pointer (some ⟨p, 0, none⟩)] w fun e w' => e = .returned (.bool (t.much s)) ∧ ∃ q, w' = w.drewN q := by
  have hne := next_any hb B T0 s w h.hold
  have hfi := fits_any p hb B T0 t s w h
  obtain ⟨⟨c0, -⟩, -⟩ := cyc_cells h.cells
  clear h
  have HF : Hid (t.much s = (decide (0 < s.next.length) && !t.fits s)) := rfl
  generalize t.much s = F at *
  generalize t.fits s = R at *
  generalize s.next.length = n at *
  by_cases h0 : n = 0
  · subst h0
    have HG : Hid (false = F) := by show _ = _; rw [HF.out]; rfl
    go_enter Tryz.func141, Tryz.ntmps141
    go_wp2_with (first | (go_at_call 32; refine hne.mono ?_; rintro e w1 ⟨rfl, hw1⟩; obtain rfl := hw1.symm; clear hw1))
    go_ret
    exact ⟨ret_bool HG.out, 0, rfl⟩
  · have d0 : decide ((n : Int) > 0) = true := decide_eq_true (by omega)
    have HG : Hid ((!R) = F) := by show _ = _; rw [HF.out, decide_eq_true (by omega : 0 < n), Bool.true_and]
    go_enter Tryz.func141, Tryz.ntmps141
    go_wp2_with (first | (go_at_call 32; refine hne.mono ?_; rintro e w1 ⟨rfl, hw1⟩; obtain rfl := hw1.symm; clear hw1) | (go_at_call 150; refine hfi.mono ?_; rintro e w1 ⟨rfl, q, rfl⟩))
    go_ret
    exact ⟨ret_bool HG.out, _, rfl⟩
end Go.Proofs.YtldjglmelbkngaaGreat.Tape
