/- A Basic in memory; the contracts of an Odd's See, of a Basic's Hold, Taken, Resends. -/
import Derived.Test.YtldjglmelbkngaaGreatHold8
namespace Go.Proofs.YtldjglmelbkngaaGreat.Tape
open Go.ChangeShapes Go.WideShapes Go.ChangeAt Go.RowKit
set_option linter.unusedVariables false

/-- What a Basic has beside its Hold. -/
structure Bs where
  fib : Bool
  bib : Bool
  last : Int
  ask : Bool
  again : Int
  b0 : Bool
  b1 : Bool
  i0 : Bool
  i1 : Bool

/-- A Basic's cells. -/
def basC (hb : Nat) (t : Bs) : Array Value := #[.pointer (some ⟨hb, 0, none⟩), .bool t.fib, .bool t.bib, .int .u8 t.last, .bool t.ask, .int .i64 t.again, .bool t.b0, .bool t.b1, .bool t.i0, .bool t.i1]

/-- A Basic in memory: its block p, its Hold's block hb. -/
structure BasIn (w : World) (p hb B : Nat) (T0 : Nat → Prop) (t : Bs) (s : Hs) : Prop where
  cells : w.heap[p]? = some (.cells (basC hb t) 129 (0, 0))
  hold : HoldAt w hb B T0 s
  lowp : B ≤ p
  lowh : B ≤ hb
  last : 0 ≤ t.last ∧ t.last ≤ 255
  again : -1 ≤ t.again ∧ t.again ≤ 127

/-- .. its blocks in T. -/
def BasAt (w : World) (p B : Nat) (T : Nat → Prop) (t : Bs) (s : Hs) : Prop := ∃ hb T0, T = (fun g => g = p ∨ T0 g) ∧ BasIn w p hb B T0 t s

/-- Of which kind a Hold's blocks are. -/
theorem HoldAt.kind {w : World} {b B : Nat} {T : Nat → Prop} {s : Hs} (h : HoldAt w b B T s) : ∀ g, T g → ∃ cur t, w.heap[g]? = some (.cells cur t (0, 0)) ∧ (t = 99 ∨ t = 30) := by
  obtain ⟨sv, nv, rfl, h1, ⟨us, h2, -⟩, ⟨un, h4, -⟩, -⟩ := h
  rintro g (rfl | e | e)
  · exact ⟨_, _, h1, .inl rfl⟩
  · obtain ⟨cur, hh⟩ := h2.type g e
    exact ⟨_, _, hh, .inr rfl⟩
  · obtain ⟨cur, hh⟩ := h4.type g e
    exact ⟨_, _, hh, .inr rfl⟩

theorem HoldAt.stay {w w' : World} {b B : Nat} {T : Nat → Prop} {s : Hs} (h : HoldAt w b B T s) (hT : ∀ k, T k → w'.heap[k]? = w.heap[k]?) (h5 : ∀ (k : Nat) cur, w.heap[k]? = some (.cells cur 5 (0, 0)) → w'.heap[k]? = w.heap[k]?) : HoldAt w' b B T s := by
  obtain ⟨sv, nv, rfl, h1, ⟨us, h2, h3⟩, ⟨un, h4, h5'⟩, h6, h7, h8, h9⟩ := h
  exact ⟨sv, nv, rfl, (hT b (.inl rfl)).trans h1, ⟨us, h2.at_ fun g hg => hT g (.inr (.inl hg)), h3.mono fun u x hm => hm.at_ fun g cur _ hg => h5 g cur hg⟩,
    ⟨un, h4.at_ fun g hg => hT g (.inr (.inr hg)), h5'.mono fun u x hm => hm.at_ fun g cur _ hg => h5 g cur hg⟩, h6, h7, h8, h9⟩

theorem BasIn.apart {w : World} {p hb B : Nat} {T0 : Nat → Prop} {t : Bs} {s : Hs} (h : BasIn w p hb B T0 t s) : ¬ T0 p := fun e => by
  obtain ⟨cur, t, hh, ht⟩ := h.hold.kind p e
  rw [h.cells] at hh
  simp only [Option.some.injEq, Obj.cells.injEq] at hh
  rcases ht with rfl | rfl <;> exact absurd hh.2.1 (by decide)

theorem BasAt.kind {w : World} {p B : Nat} {T : Nat → Prop} {t : Bs} {s : Hs} (h : BasAt w p B T t s) : ∀ g, T g → ∃ cur t, w.heap[g]? = some (.cells cur t (0, 0)) ∧ (t = 129 ∨ t = 99 ∨ t = 30) := by
  obtain ⟨hb, T0, rfl, h⟩ := h
  rintro g (rfl | e)
  · exact ⟨_, _, h.cells, .inl rfl⟩
  · obtain ⟨cur, t, hh, ht⟩ := h.hold.kind g e
    exact ⟨cur, t, hh, .inr ht⟩

theorem BasAt.stay {w w' : World} {p B : Nat} {T : Nat → Prop} {t : Bs} {s : Hs} (h : BasAt w p B T t s) (hT : ∀ k, T k → w'.heap[k]? = w.heap[k]?) (h5 : ∀ (k : Nat) cur, w.heap[k]? = some (.cells cur 5 (0, 0)) → w'.heap[k]? = w.heap[k]?) : BasAt w' p B T t s := by
  obtain ⟨hb, T0, rfl, h⟩ := h
  exact ⟨hb, T0, rfl, (hT p (.inl rfl)).trans h.cells, h.hold.stay (fun k hk => hT k (.inr hk)) h5, h.lowp, h.lowh, h.last, h.again⟩

theorem BasAt.lt {w : World} {p B : Nat} {T : Nat → Prop} {t : Bs} {s : Hs} (h : BasAt w p B T t s) : ∀ g, T g → B ≤ g ∧ g < w.heap.size := by
  obtain ⟨hb, T0, rfl, h⟩ := h
  rintro g (rfl | e)
  · exact ⟨h.lowp, heap_lt h.cells⟩
  · exact ⟨h.hold.base h.lowh (Nat.le_refl _) g e, (h.hold.mine g e).2⟩

theorem BasIn.at_ {w : World} {p hb B : Nat} {T0 : Nat → Prop} {t : Bs} {s : Hs} (h : BasIn w p hb B T0 t s) : BasAt w p B (fun g => g = p ∨ T0 g) t s := ⟨hb, T0, rfl, h⟩
theorem BasAt.below {w w' : World} {p B : Nat} {T : Nat → Prop} {t : Bs} {s : Hs} (h : BasAt w p B T t s) (hb : Below w.heap.size w w') : BasAt w' p B T t s := h.stay (fun k hk => hb.block k (h.lt k hk).2) (fun k cur hk => hb.block k (heap_lt hk))
theorem BasIn.below {w w' : World} {p hb B : Nat} {T0 : Nat → Prop} {t : Bs} {s : Hs} (h : BasIn w p hb B T0 t s) (hB : Below w.heap.size w w') : BasIn w' p hb B T0 t s := ⟨(hB.block p (heap_lt h.cells)).trans h.cells, h.hold.below hB, h.lowp, h.lowh, h.last, h.again⟩

/-- What another's step leaves of a Basic that is apart from it. -/
theorem BasAt.other {w w' : World} {p B : Nat} {T T1 T1' : Nat → Prop} {t : Bs} {s : Hs} (h : BasAt w p B T t s) (hf : Foot T1 T1' w w') (hd : ∀ g, T g → ¬ T1 g) (h5 : ∀ (g : Nat) cur, w.heap[g]? = some (.cells cur 5 (0, 0)) → ¬ T1 g) : BasAt w' p B T t s := h.stay (fun k hk => hf.block k (h.lt k hk).2 (hd k hk)) (fun k cur hk => hf.block k (heap_lt hk) (h5 k cur hk))

theorem BasAt.not5 {w : World} {p B : Nat} {T : Nat → Prop} {t : Bs} {s : Hs} (h : BasAt w p B T t s) : ∀ (g : Nat) cur, w.heap[g]? = some (.cells cur 5 (0, 0)) → ¬ T g := fun g cur hg e => by
  obtain ⟨cur', t, hh, ht⟩ := h.kind g e
  rw [hg] at hh
  simp only [Option.some.injEq, Obj.cells.injEq] at hh
  obtain ⟨-, rfl, -⟩ := hh
  rcases ht with e | e | e <;> exact absurd e (by decide)

/-- A step of its Hold. -/
theorem BasIn.step {w w' : World} {p hb B : Nat} {T0 T0' : Nat → Prop} {t : Bs} {s s' : Hs} (h : BasIn w p hb B T0 t s) (hat : HoldAt w' hb B T0' s') (hf : Foot T0 T0' w w') : BasIn w' p hb B T0' t s' ∧ Foot (fun g => g = p ∨ T0 g) (fun g => g = p ∨ T0' g) w w' :=
  ⟨⟨(hf.block p (heap_lt h.cells) h.apart).trans h.cells, hat, h.lowp, h.lowh, h.last, h.again⟩, hf.os, hf.tape, hf.output, hf.size, fun k hk hn => hf.block k hk (fun e => hn (.inr e)), fun g hg => by
    rcases hg with e | e
    · exact .inl (.inl e)
    · exact (hf.moved g e).imp .inr id⟩

/-- Its own cells are written. -/
theorem BasIn.set {w w' : World} {p hb B : Nat} {T0 : Nat → Prop} {t t' : Bs} {s : Hs} (h : BasIn w p hb B T0 t s) (hg : w.grownBy w' (some p)) (hc : w'.heap[p]? = some (.cells (basC hb t') 129 (0, 0))) (hl : 0 ≤ t'.last ∧ t'.last ≤ 255) (ha : -1 ≤ t'.again ∧ t'.again ≤ 127) :
    BasIn w' p hb B T0 t' s ∧ Foot (fun g => g = p ∨ T0 g) (fun g => g = p ∨ T0 g) w w' := by
  have hap := h.apart
  have hk : ∀ k, k ≠ p → k < w.heap.size → w'.heap[k]? = w.heap[k]? := fun k hk hlt => hg.block k hlt (fun e => hk (by simpa using e))
  refine ⟨⟨hc, h.hold.stay (fun k hk' => hk k (fun e => hap (e ▸ hk')) (h.hold.mine k hk').2) (fun k cur hk' => hk k (fun e => ?_) (heap_lt hk')), h.lowp, h.lowh, hl, ha⟩, hg.os, hg.tape, hg.output, hg.size, fun k hlt hn => hk k (fun e => hn (.inl e)) hlt, fun g hg => .inl hg⟩
  subst e
  rw [h.cells] at hk'
  simp only [Option.some.injEq, Obj.cells.injEq] at hk'
  exact absurd hk'.2.1 (by decide)

theorem bas_cells {w : World} {p hb : Nat} {t : Bs} (h : w.heap[p]? = some (.cells (basC hb t) 129 (0, 0))) :
    (w.cell? ⟨p, 0, none⟩ = some (.pointer (some ⟨hb, 0, none⟩)) ∧ w.cell? ⟨p, 1, none⟩ = some (.bool t.fib) ∧ w.cell? ⟨p, 2, none⟩ = some (.bool t.bib) ∧ w.cell? ⟨p, 3, none⟩ = some (.int .u8 t.last) ∧ w.cell? ⟨p, 4, none⟩ = some (.bool t.ask) ∧ w.cell? ⟨p, 5, none⟩ = some (.int .i64 t.again) ∧ w.cell? ⟨p, 6, none⟩ = some (.bool t.b0) ∧ w.cell? ⟨p, 7, none⟩ = some (.bool t.b1) ∧ w.cell? ⟨p, 8, none⟩ = some (.bool t.i0) ∧ w.cell? ⟨p, 9, none⟩ = some (.bool t.i1)) ∧
    ∀ k, w.frozen? ⟨p, k, none⟩ = false := by
  unfold basC at h
  refine ⟨⟨?_, ?_, ?_, ?_, ?_, ?_, ?_, ?_, ?_, ?_⟩, Lib.frozen_of_heap h⟩ <;> rw [Lib.cell_of_heap h] <;> rfl

/-- A Basic's cells as a list, to be written by row_set. -/
def basL (hb : Nat) (t : Bs) : List Value := [.pointer (some ⟨hb, 0, none⟩), .bool t.fib, .bool t.bib, .int .u8 t.last, .bool t.ask, .int .i64 t.again, .bool t.b0, .bool t.b1, .bool t.i0, .bool t.i1]
theorem bas_row {w : World} {p hb : Nat} {t : Bs} (h : w.heap[p]? = some (.cells (basC hb t) 129 (0, 0))) : w.heap[p]? = some (.cells (basL hb t).toArray 129 (0, 0)) := h

set_option maxRecDepth 100000 in
set_option maxHeartbeats 400000 in
theorem see_any (b k : Nat) (odd o0 o1 : Bool) (w : World) (c0 : w.cell? ⟨b, k, none⟩ = some (.bool o0)) (z0 : w.frozen? ⟨b, k, none⟩ = false) (c1 : w.cell? ⟨b, k + 1, none⟩ = some (.bool o1)) (z1 : w.frozen? ⟨b, k + 1, none⟩ = false) :
    Calls Tryz.prog 138 #[.pointer (some ⟨b, k, none⟩), .bool odd] w fun e w' => e = .returned (.bool (odd && (o0 || o1))) ∧ w' = (w.setCell ⟨b, k, none⟩ (.bool odd)).setCell ⟨b, k + 1, none⟩ (.bool o0) := by
  cases odd <;> cases o0 <;> cases o1
  all_goals
    go_enter Tryz.func138, Tryz.ntmps138
    go_wp2
    go_ret
    exact ⟨rfl, rfl⟩

set_option maxRecDepth 100000 in
set_option maxHeartbeats 400000 in
theorem bhold_any (p hb B : Nat) (T0 : Nat → Prop) (t : Bs) (s : Hs) (w : World) (h : BasIn w p hb B T0 t s) : Calls Tryz.prog 159 #[.pointer (some ⟨p, 0, none⟩)] w fun e w' => e = .returned (.pointer (some ⟨hb, 0, none⟩)) ∧ w' = w := by
  obtain ⟨⟨c0, -⟩, -⟩ := bas_cells h.cells
  clear h
  go_enter Tryz.func159, Tryz.ntmps159
  go_wp2
  go_ret
  exact ⟨rfl, rfl⟩

set_option maxRecDepth 100000 in
set_option maxHeartbeats 400000 in
theorem taken_any (p hb B : Nat) (T0 : Nat → Prop) (t : Bs) (s : Hs) (w : World) (h : BasIn w p hb B T0 t s) : Calls Tryz.prog 163 #[.pointer (some ⟨p, 0, none⟩)] w fun e w' => e = .returned (.int .u8 t.last) ∧ w' = w := by
  obtain ⟨⟨-, -, -, c3, -⟩, -⟩ := bas_cells h.cells
  clear h
  go_enter Tryz.func163, Tryz.ntmps163
  go_wp2
  go_ret
  exact ⟨rfl, rfl⟩

set_option maxRecDepth 100000 in
set_option maxHeartbeats 400000 in
theorem resends_any (p hb B : Nat) (T0 : Nat → Prop) (t : Bs) (s : Hs) (w : World) (h : BasIn w p hb B T0 t s) : Calls Tryz.prog 161 #[.pointer (some ⟨p, 0, none⟩)] w fun e w' => e = .returned (.bool (t.again != -1)) ∧ w' = w := by
  obtain ⟨⟨-, -, -, -, -, c5, -⟩, -⟩ := bas_cells h.cells
  clear h
  go_enter Tryz.func161, Tryz.ntmps161
  go_wp2
  go_ret
  exact ⟨rfl, rfl⟩
end Go.Proofs.YtldjglmelbkngaaGreat.Tape
