/- A State in memory: all that it is made of; what a call of one of its parts leaves of it; no walk. -/
import Derived.Test.YtldjglmelbkngaaGreatState0
import Derived.Test.YtldjglmelbkngaaGreatWay6
import Derived.Test.YtldjglmelbkngaaGreatTRow
namespace Go.Proofs.YtldjglmelbkngaaGreat.Tape
open Go.ChangeShapes Go.WideShapes Go.ChangeAt Go.RowKit
set_option linter.unusedVariables false

/-- What a State has. -/
structure St where
  s : Int
  A : Al
  J : Ja
  wt : Wt
  hs : Hs
  own : Bool
  their : Bool
  held : Bool
  lk : Lk
  told : List (Array Value)
  fl : Int

/-- Where it lies: its block, its clock's, its Align's, its Jam's, its way's, its Hold's; a bound below which none of its blocks lies; which method its way is. -/
structure Pl where
  b : Nat
  c : Nat
  a : Nat
  j : Nat
  p : Nat
  hb : Nat
  B : Nat
  cy : Bool

/-- A State's cells. -/
def staC (P : Pl) (x : St) (v : Value) : List Value := [.int .u8 x.s, .pointer (some ⟨P.c, 0, none⟩), .pointer (some ⟨P.a, 0, none⟩), .pointer (some ⟨P.j, 0, none⟩), .iface (wT P.cy) (.pointer (some ⟨P.p, 0, none⟩)), .bool x.own, .bool x.their, .bool x.held, .int .i64 (x.A.t 0), .int .i64 (x.A.t 1), .int .i64 (x.A.t 2), .int .i64 (x.A.t 3), .int .i64 (x.A.t 4), .int .i64 (x.A.t 5), .int .i64 (x.A.t 6), .int .i64 (x.A.t 7), .int .i64 x.lk.n, .int .i64 x.lk.s, v, .int .i64 x.fl]

/-- How much room there is: so much may come to its numbers, at least. -/
structure Room (k : Nat) (x : St) : Prop where
  told : x.told.length + k ≤ 1000
  fl : 0 ≤ x.fl ∧ x.fl + k ≤ 1000
  n : x.lk.n + k ≤ 1000
  s : x.lk.s ≤ 255
  an : 0 ≤ x.A.n ∧ x.A.n + k ≤ 1000
  tries : 0 ≤ x.A.tries ∧ x.A.tries + k ≤ 1000
  st : 0 ≤ x.A.st ∧ x.A.st ≤ 3

structure StIn (w : World) (P : Pl) (T0 : Nat → Prop) (v : Value) (x : St) : Prop where
  cells : w.heap[P.b]? = some (.cells (staC P x v).toArray 46 (0, 0))
  al : AlignAt w P.a P.c x.A
  ja : JamAt w P.j P.c x.J
  way : WayIn w P.p P.hb P.B T0 x.wt x.hs
  cyc : x.wt.cyclic = P.cy
  row : TRow w v x.told
  low : P.B ≤ P.b ∧ P.B ≤ P.c ∧ P.B ≤ P.a ∧ P.B ≤ P.j
  lowv : ∀ g, v.ownBlock = some g → P.B ≤ g

/-- Its blocks. -/
def setT (P : Pl) (T0 : Nat → Prop) (v : Value) : Nat → Prop := fun g => g = P.b ∨ g = P.c ∨ g = P.a ∨ g = P.j ∨ (g = P.p ∨ T0 g) ∨ v.ownBlock = some g

def StAt (w : World) (P : Pl) (k : Nat) (T : Nat → Prop) (x : St) : Prop := Room k x ∧ ∃ T0 v, T = setT P T0 v ∧ StIn w P T0 v x

/-! ### Blocks told apart by their types -/
theorem two_types {w : World} {g : Nat} {cur cur' : Array Value} {t t' : TypeId} (h : w.heap[g]? = some (.cells cur t (0, 0))) (h' : w.heap[g]? = some (.cells cur' t' (0, 0))) : t = t' := by
  rw [h] at h'
  simp only [Option.some.injEq, Obj.cells.injEq] at h'
  exact h'.2.1
theorem WayIn.kinds {w : World} {p hb B : Nat} {T0 : Nat → Prop} {x : Wt} {s : Hs} (h : WayIn w p hb B T0 x s) : ∀ g, (g = p ∨ T0 g) → ∃ cur t, w.heap[g]? = some (.cells cur t (0, 0)) ∧ (t = 129 ∨ t = 127 ∨ t = 99 ∨ t = 30) := by
  cases x with
  | inl t =>
    intro g e
    obtain ⟨cur, t, hh, ht⟩ := (BasIn.at_ h).kind g e
    exact ⟨cur, t, hh, by rcases ht with e | e | e <;> simp [e]⟩
  | inr t =>
    intro g e
    obtain ⟨cur, t, hh, ht⟩ := (CycIn.at_ h).kind g e
    exact ⟨cur, t, hh, by rcases ht with e | e | e <;> simp [e]⟩
/-- A block of another type is none of a way's. -/
theorem WayIn.notT {w : World} {p hb B : Nat} {T0 : Nat → Prop} {x : Wt} {s : Hs} (h : WayIn w p hb B T0 x s) {g : Nat} {cur : Array Value} {t : TypeId} (hg : w.heap[g]? = some (.cells cur t (0, 0))) (ht : t ≠ 129 ∧ t ≠ 127 ∧ t ≠ 99 ∧ t ≠ 30) : ¬ (g = p ∨ T0 g) := fun e => by
  obtain ⟨cur', t', hh, ht'⟩ := h.kinds g e
  obtain rfl := two_types hg hh
  rcases ht' with e | e | e | e
  · exact ht.1 e
  · exact ht.2.1 e
  · exact ht.2.2.1 e
  · exact ht.2.2.2 e

/-- All of its blocks are apart. -/
structure Apart (P : Pl) (T0 : Nat → Prop) (v : Value) : Prop where
  bc : P.b ≠ P.c
  ba : P.b ≠ P.a
  bj : P.b ≠ P.j
  ca : P.c ≠ P.a
  cj : P.c ≠ P.j
  aj : P.a ≠ P.j
  wb : ¬ (P.b = P.p ∨ T0 P.b)
  wc : ¬ (P.c = P.p ∨ T0 P.c)
  wa : ¬ (P.a = P.p ∨ T0 P.a)
  wj : ¬ (P.j = P.p ∨ T0 P.j)
  v : ∀ g, v.ownBlock = some g → g ≠ P.b ∧ g ≠ P.c ∧ g ≠ P.a ∧ g ≠ P.j ∧ ¬ (g = P.p ∨ T0 g)

theorem StIn.apart {w : World} {P : Pl} {T0 : Nat → Prop} {v : Value} {x : St} (h : StIn w P T0 v x) : Apart P T0 v := by
  have hb := h.cells
  have hc := h.al.clock.cells
  have ha := h.al.cells
  have hj := h.ja.cells
  refine ⟨?_, ?_, ?_, ?_, ?_, ?_, h.way.notT hb (by decide), h.way.notT hc (by decide), h.way.notT ha (by decide), h.way.notT hj (by decide), fun g hg => ?_⟩
  · intro e; rw [e] at hb; exact absurd (two_types hb hc) (by decide)
  · intro e; rw [e] at hb; exact absurd (two_types hb ha) (by decide)
  · intro e; rw [e] at hb; exact absurd (two_types hb hj) (by decide)
  · intro e; rw [e] at hc; exact absurd (two_types hc ha) (by decide)
  · intro e; rw [e] at hc; exact absurd (two_types hc hj) (by decide)
  · intro e; rw [e] at ha; exact absurd (two_types ha hj) (by decide)
  · obtain ⟨cur, hh⟩ := h.row.type g hg
    refine ⟨?_, ?_, ?_, ?_, h.way.notT hh (by decide)⟩
    · intro e; rw [e] at hh; exact absurd (two_types hh hb) (by decide)
    · intro e; rw [e] at hh; exact absurd (two_types hh hc) (by decide)
    · intro e; rw [e] at hh; exact absurd (two_types hh ha) (by decide)
    · intro e; rw [e] at hh; exact absurd (two_types hh hj) (by decide)

/-- All lie in memory, and above the bound. -/
theorem StIn.lt {w : World} {P : Pl} {T0 : Nat → Prop} {v : Value} {x : St} (h : StIn w P T0 v x) : ∀ g, setT P T0 v g → P.B ≤ g ∧ g < w.heap.size := by
  rintro g (rfl | rfl | rfl | rfl | e | e)
  · exact ⟨h.low.1, heap_lt h.cells⟩
  · exact ⟨h.low.2.1, h.al.lt.2⟩
  · exact ⟨h.low.2.2.1, h.al.lt.1⟩
  · exact ⟨h.low.2.2.2, h.ja.lt.1⟩
  · exact h.way.low g e
  · exact ⟨h.lowv g e, h.row.lt g e⟩

/-! ### What a step leaves -/
theorem StIn.keep {w w' : World} {P : Pl} {T0 : Nat → Prop} {v : Value} {x : St} (h : StIn w P T0 v x) (hb : Below w.heap.size w w') : StIn w' P T0 v x :=
  ⟨(hb.block _ (heap_lt h.cells)).trans h.cells, h.al.keep hb, h.ja.keep hb, h.way.below hb, h.cyc, h.row.below hb, h.low, h.lowv⟩

/-- Another's block: the way stays. -/
theorem way_off {w w' : World} {p hb B : Nat} {T0 T1 : Nat → Prop} {x : Wt} {s : Hs} (h : WayIn w p hb B T0 x s) (hf : Foot T1 T1 w w') (hT : ∀ g, T1 g → ¬ (g = p ∨ T0 g) ∧ ∃ cur t, w.heap[g]? = some (.cells cur t (0, 0)) ∧ t ≠ 30 ∧ t ≠ 5) : WayIn w' p hb B T0 x s :=
  h.other hf (fun g hg e => (hT g e).1 hg) fun g cur hg e => by
    obtain ⟨-, cur', t, hh, -, ht⟩ := hT g e
    exact ht (two_types hh hg)

/-- A store into one of its own cells. -/
theorem StIn.put {w : World} {P : Pl} {T0 : Nat → Prop} {v : Value} {x : St} (h : StIn w P T0 v x) (x' : St) (k : Nat) (y : Value) (e : (staC P x v).set k y = staC P x' v) (hA : x'.A = x.A) (hJ : x'.J = x.J) (hw : x'.wt = x.wt) (hh : x'.hs = x.hs) (ht : x'.told = x.told) : StIn (w.setCell ⟨P.b, k, none⟩ y) P T0 v x' := by
  have ap := h.apart
  have hne : ∀ g, g ≠ P.b → (w.setCell ⟨P.b, k, none⟩ y).heap[g]? = w.heap[g]? := fun g hg => Below.heap_setCell _ _ _ _ hg
  refine ⟨by rw [← e]; exact row_set h.cells k y, ?_, ?_, ?_, by rw [hw]; exact h.cyc, ?_, h.low, h.lowv⟩
  · rw [hA]; exact h.al.at_ (hne _ ap.ba.symm) (hne _ ap.bc.symm)
  · rw [hJ]; exact h.ja.at_ (hne _ ap.bj.symm) (hne _ ap.bc.symm)
  · rw [hw, hh]
    refine way_off (T1 := fun g => g = P.b) h.way ⟨rfl, rfl, rfl, Nat.le_of_eq (by simp), fun g _ hg => hne g hg, fun g hg => .inl hg⟩ ?_
    rintro g rfl
    exact ⟨ap.wb, _, _, h.cells, by decide, by decide⟩
  · rw [ht]; exact h.row.at_ fun g hg => hne g (ap.v g hg).1

theorem Foot.put {P : Pl} {T0 : Nat → Prop} {v : Value} (w : World) (k : Nat) (y : Value) : Foot (setT P T0 v) (setT P T0 v) w (w.setCell ⟨P.b, k, none⟩ y) :=
  ⟨rfl, rfl, rfl, Nat.le_of_eq (by simp), fun g _ hg => Below.heap_setCell _ _ _ _ (fun e => hg (.inl e)), fun g hg => .inl hg⟩

def St.setC (x : St) (xs : List Int) : St := { x with A := { x.A with xs := xs }, J := { x.J with xs := xs } }
def St.setA (x : St) (A : Al) : St := { x with A := A, J := { x.J with xs := A.xs } }
def St.setJ (x : St) (J : Ja) : St := { x with A := { x.A with xs := J.xs }, J := J }
def St.setW (x : St) (wt : Wt) (hs : Hs) : St := { x with wt := wt, hs := hs }

/-- A call of its Align. -/
theorem StIn.stA {w w' : World} {P : Pl} {T0 : Nat → Prop} {v : Value} {x : St} {A : Al} (h : StIn w P T0 v x) (hA : AlignAt w' P.a P.c A) (hf : Fr P.a P.c w w') (ht : A.t = x.A.t) : StIn w' P T0 v (x.setA A) ∧ Foot (setT P T0 v) (setT P T0 v) w w' := by
  have ap := h.apart
  have hft : Foot (fun g => g = P.a ∨ g = P.c) (fun g => g = P.a ∨ g = P.c) w w' := ⟨hf.os, hf.tape, hf.output, hf.size, fun g hg hT => hf.block g hg (fun e => hT (.inl e)) (fun e => hT (.inr e)), fun g hg => .inl hg⟩
  refine ⟨⟨?_, hA, h.ja.beside hf hA.clock ap.aj.symm, way_off h.way hft ?_, h.cyc, h.row.at_ fun g hg => hf.block g (h.row.lt g hg) (ap.v g hg).2.2.1 (ap.v g hg).2.1, h.low, h.lowv⟩, hf.os, hf.tape, hf.output, hf.size, fun g hg hT => hf.block g hg (fun e => hT (.inr (.inr (.inl e)))) (fun e => hT (.inr (.inl e))), fun g hg => .inl hg⟩
  · rw [hf.block _ (heap_lt h.cells) ap.ba ap.bc, h.cells]
    show _ = some (Obj.cells (staC P (x.setA A) v).toArray 46 (0, 0))
    simp only [staC, St.setA, ht]
  · rintro g (rfl | rfl)
    · exact ⟨ap.wa, _, _, h.al.cells, by decide, by decide⟩
    · exact ⟨ap.wc, _, _, h.al.clock.cells, by decide, by decide⟩

/-- A call of its Jam. -/
theorem StIn.stJ {w w' : World} {P : Pl} {T0 : Nat → Prop} {v : Value} {x : St} {J : Ja} (h : StIn w P T0 v x) (hJ : JamAt w' P.j P.c J) (hf : Fr P.j P.c w w') : StIn w' P T0 v (x.setJ J) ∧ Foot (setT P T0 v) (setT P T0 v) w w' := by
  have ap := h.apart
  have hft : Foot (fun g => g = P.j ∨ g = P.c) (fun g => g = P.j ∨ g = P.c) w w' := ⟨hf.os, hf.tape, hf.output, hf.size, fun g hg hT => hf.block g hg (fun e => hT (.inl e)) (fun e => hT (.inr e)), fun g hg => .inl hg⟩
  refine ⟨⟨?_, h.al.beside hf hJ.clock ap.aj, hJ, way_off h.way hft ?_, h.cyc, h.row.at_ fun g hg => hf.block g (h.row.lt g hg) (ap.v g hg).2.2.2.1 (ap.v g hg).2.1, h.low, h.lowv⟩, hf.os, hf.tape, hf.output, hf.size, fun g hg hT => hf.block g hg (fun e => hT (.inr (.inr (.inr (.inl e))))) (fun e => hT (.inr (.inl e))), fun g hg => .inl hg⟩
  · rw [hf.block _ (heap_lt h.cells) ap.bj ap.bc, h.cells]
    rfl
  · rintro g (rfl | rfl)
    · exact ⟨ap.wj, _, _, h.ja.cells, by decide, by decide⟩
    · exact ⟨ap.wc, _, _, h.al.clock.cells, by decide, by decide⟩

/-- A call of its clock. -/
theorem StIn.stK {w w' : World} {P : Pl} {T0 : Nat → Prop} {v : Value} {x : St} {xs : List Int} (h : StIn w P T0 v x) (hc : ClockAt w' P.c xs) (hg : w.grownBy w' (some P.c)) : StIn w' P T0 v (x.setC xs) ∧ Foot (setT P T0 v) (setT P T0 v) w w' := by
  have ap := h.apart
  have hf : ∀ g, g < w.heap.size → g ≠ P.c → w'.heap[g]? = w.heap[g]? := fun g hl hn => hg.block g hl (fun e => hn (by simpa using e))
  have hft : Foot (fun g => g = P.c) (fun g => g = P.c) w w' := ⟨hg.os, hg.tape, hg.output, hg.size, fun g hl hT => hf g hl hT, fun g hg => .inl hg⟩
  refine ⟨⟨?_, ⟨(hf _ h.al.lt.1 ap.ca.symm).trans h.al.cells, hc, h.al.ok⟩, ⟨(hf _ h.ja.lt.1 ap.cj.symm).trans h.ja.cells, hc, h.ja.ok⟩, way_off h.way hft ?_, h.cyc, h.row.at_ fun g hg => hf g (h.row.lt g hg) (ap.v g hg).2.1, h.low, h.lowv⟩, hg.os, hg.tape, hg.output, hg.size, fun g hl hT => hf g hl (fun e => hT (.inr (.inl e))), fun g hg => .inl hg⟩
  · rw [hf _ (heap_lt h.cells) ap.bc, h.cells]
    rfl
  · rintro g rfl
    exact ⟨ap.wc, _, _, h.al.clock.cells, by decide, by decide⟩

/-- A call of its way. -/
theorem StIn.stW {w w' : World} {P : Pl} {T0 T1 : Nat → Prop} {v : Value} {x : St} {wt : Wt} {hs : Hs} (h : StIn w P T0 v x) (hW : WayIn w' P.p P.hb P.B T1 wt hs) (hc : wt.cyclic = x.wt.cyclic) (hf : Foot (fun g => g = P.p ∨ T0 g) (fun g => g = P.p ∨ T1 g) w w') : StIn w' P T1 v (x.setW wt hs) ∧ Foot (setT P T0 v) (setT P T1 v) w w' := by
  have ap := h.apart
  refine ⟨⟨?_, h.al.at_ (hf.block _ h.al.lt.1 ap.wa) (hf.block _ h.al.lt.2 ap.wc), h.ja.at_ (hf.block _ h.ja.lt.1 ap.wj) (hf.block _ h.ja.lt.2 ap.wc), hW, hc.trans h.cyc, h.row.at_ fun g hg => hf.block g (h.row.lt g hg) (ap.v g hg).2.2.2.2, h.low, h.lowv⟩,
    hf.os, hf.tape, hf.output, hf.size, fun g hl hT => hf.block g hl (fun e => hT (.inr (.inr (.inr (.inr (.inl e)))))), ?_⟩
  · rw [hf.block _ (heap_lt h.cells) ap.wb, h.cells]
    rfl
  · rintro g (e | e | e | e | e | e)
    · exact .inl (.inl e)
    · exact .inl (.inr (.inl e))
    · exact .inl (.inr (.inr (.inl e)))
    · exact .inl (.inr (.inr (.inr (.inl e))))
    · exact (hf.moved g e).imp (fun e => .inr (.inr (.inr (.inr (.inl e))))) id
    · exact .inl (.inr (.inr (.inr (.inr (.inr e)))))

/-- One more is told: the row grows, and is stored. -/
theorem StIn.tell {w w' : World} {P : Pl} {T0 : Nat → Prop} {v v' : Value} {x : St} {us : List (Array Value)} (h : StIn w P T0 v x) (hr : TRow w' v' us) (hg : w.grownBy w' v.ownBlock) (hv : ∀ g, v'.ownBlock = some g → v.ownBlock = some g ∨ w.heap.size ≤ g) (hB : P.B ≤ w.heap.size) : StIn (w'.setCell ⟨P.b, 18, none⟩ v') P T0 v' { x with told := us } ∧ Foot (setT P T0 v) (setT P T0 v') w (w'.setCell ⟨P.b, 18, none⟩ v') := by
  have ap := h.apart
  have hb' : P.b < w'.heap.size := Nat.lt_of_lt_of_le (heap_lt h.cells) hg.size
  have hoff : ∀ g, g < w.heap.size → v.ownBlock ≠ some g → g ≠ P.b → (w'.setCell ⟨P.b, 18, none⟩ v').heap[g]? = w.heap[g]? := fun g hl h1 h2 => (Below.heap_setCell _ _ _ _ h2).trans (hg.block g hl (Ne.symm h1))
  have hb0 : w'.heap[P.b]? = some (.cells (staC P x v).toArray 46 (0, 0)) := (hg.block _ (heap_lt h.cells) (fun e => (ap.v _ e.symm).1 rfl)).trans h.cells
  have hft : Foot (fun g => g = P.b ∨ v.ownBlock = some g) (fun g => g = P.b ∨ v.ownBlock = some g) w (w'.setCell ⟨P.b, 18, none⟩ v') := ⟨hg.os, hg.tape, hg.output, by simpa using hg.size, fun g hl hT => hoff g hl (fun e => hT (.inr e)) (fun e => hT (.inl e)), fun g hg => .inl hg⟩
  refine ⟨⟨row_set hb0 18 v', h.al.at_ (hoff _ h.al.lt.1 (fun e => (ap.v _ e).2.2.1 rfl) ap.ba.symm) (hoff _ h.al.lt.2 (fun e => (ap.v _ e).2.1 rfl) ap.bc.symm), h.ja.at_ (hoff _ h.ja.lt.1 (fun e => (ap.v _ e).2.2.2.1 rfl) ap.bj.symm) (hoff _ h.ja.lt.2 (fun e => (ap.v _ e).2.1 rfl) ap.bc.symm), way_off h.way hft ?_, h.cyc, hr.at_ fun g hg' => Below.heap_setCell _ _ _ _ (fun e => ?_), h.low, fun g hg' => ?_⟩, hg.os, hg.tape, hg.output, by simpa using hg.size, fun g hl hT => hoff g hl (fun e => hT (.inr (.inr (.inr (.inr (.inr e)))))) (fun e => hT (.inl e)), ?_⟩
  · rintro g (rfl | e)
    · exact ⟨ap.wb, _, _, h.cells, by decide, by decide⟩
    · obtain ⟨cur, hh⟩ := h.row.type g e
      exact ⟨(ap.v g e).2.2.2.2, _, _, hh, by decide, by decide⟩
  · rcases hv g hg' with h1 | h1
    · exact (ap.v g h1).1 e
    · have := heap_lt h.cells
      have e' : g = P.b := e
      omega
  · rcases hv g hg' with h1 | h1
    · exact h.lowv g h1
    · exact Nat.le_trans hB h1
  · rintro g (e | e | e | e | e | e)
    · exact .inl (.inl e)
    · exact .inl (.inr (.inl e))
    · exact .inl (.inr (.inr (.inl e)))
    · exact .inl (.inr (.inr (.inr (.inl e))))
    · exact .inl (.inr (.inr (.inr (.inr (.inl e)))))
    · exact (hv g e).imp (fun e => .inr (.inr (.inr (.inr (.inr e))))) id

/-- What was told is handed out. -/
theorem StIn.took {w : World} {P : Pl} {T0 : Nat → Prop} {v : Value} {x : St} (h : StIn w P T0 v x) : StIn (w.setCell ⟨P.b, 18, none⟩ (.slice none 0 0)) P T0 (.slice none 0 0) { x with told := [] } ∧ Foot (setT P T0 v) (setT P T0 (.slice none 0 0)) w (w.setCell ⟨P.b, 18, none⟩ (.slice none 0 0)) ∧ TRow (w.setCell ⟨P.b, 18, none⟩ (.slice none 0 0)) v x.told ∧ ∀ g, v.ownBlock = some g → ¬ setT P T0 (.slice none 0 0) g := by
  have ap := h.apart
  have hne : ∀ g, g ≠ P.b → (w.setCell ⟨P.b, 18, none⟩ (.slice none 0 0)).heap[g]? = w.heap[g]? := fun g hg => Below.heap_setCell _ _ _ _ hg
  refine ⟨⟨row_set h.cells 18 _, h.al.at_ (hne _ ap.ba.symm) (hne _ ap.bc.symm), h.ja.at_ (hne _ ap.bj.symm) (hne _ ap.bc.symm), way_off (T1 := fun g => g = P.b) h.way ⟨rfl, rfl, rfl, Nat.le_of_eq (by simp), fun g _ hg => hne g hg, fun g hg => .inl hg⟩ ?_, h.cyc, TRow.nil _, h.low, fun g e => by simp [Value.ownBlock] at e⟩, ⟨rfl, rfl, rfl, Nat.le_of_eq (by simp), fun g _ hg => hne g (fun e => hg (.inl e)), ?_⟩, h.row.at_ fun g hg => hne g (ap.v g hg).1, ?_⟩
  · rintro g rfl
    exact ⟨ap.wb, _, _, h.cells, by decide, by decide⟩
  · rintro g (e | e | e | e | e | e)
    · exact .inl (.inl e)
    · exact .inl (.inr (.inl e))
    · exact .inl (.inr (.inr (.inl e)))
    · exact .inl (.inr (.inr (.inr (.inl e))))
    · exact .inl (.inr (.inr (.inr (.inr (.inl e)))))
    · simp [Value.ownBlock] at e
  · rintro g hg (e | e | e | e | e | e)
    · exact (ap.v g hg).1 e
    · exact (ap.v g hg).2.1 e
    · exact (ap.v g hg).2.2.1 e
    · exact (ap.v g hg).2.2.2.1 e
    · exact (ap.v g hg).2.2.2.2 e
    · simp [Value.ownBlock] at e

/-- What its cells hold. -/
theorem StIn.all {w : World} {P : Pl} {T0 : Nat → Prop} {v : Value} {x : St} (h : StIn w P T0 v x) :
    (w.cell? ⟨P.b, 0, none⟩ = some (.int .u8 x.s) ∧ w.cell? ⟨P.b, 1, none⟩ = some (.pointer (some ⟨P.c, 0, none⟩)) ∧ w.cell? ⟨P.b, 2, none⟩ = some (.pointer (some ⟨P.a, 0, none⟩)) ∧ w.cell? ⟨P.b, 3, none⟩ = some (.pointer (some ⟨P.j, 0, none⟩)) ∧ w.cell? ⟨P.b, 4, none⟩ = some (.iface (wT P.cy) (.pointer (some ⟨P.p, 0, none⟩))) ∧
      w.cell? ⟨P.b, 5, none⟩ = some (.bool x.own) ∧ w.cell? ⟨P.b, 6, none⟩ = some (.bool x.their) ∧ w.cell? ⟨P.b, 7, none⟩ = some (.bool x.held) ∧ w.cell? ⟨P.b, 9, none⟩ = some (.int .i64 (x.A.t 1)) ∧ w.cell? ⟨P.b, 15, none⟩ = some (.int .i64 (x.A.t 7)) ∧
      w.cell? ⟨P.b, 16, none⟩ = some (.int .i64 x.lk.n) ∧ w.cell? ⟨P.b, 17, none⟩ = some (.int .i64 x.lk.s) ∧ w.cell? ⟨P.b, 18, none⟩ = some v ∧ w.cell? ⟨P.b, 19, none⟩ = some (.int .i64 x.fl)) ∧
    ∀ k, w.frozen? ⟨P.b, k, none⟩ = false := by
  refine ⟨⟨?_, ?_, ?_, ?_, ?_, ?_, ?_, ?_, ?_, ?_, ?_, ?_, ?_, ?_⟩, Lib.frozen_of_heap h.cells⟩ <;> rw [Lib.cell_of_heap h.cells] <;> rfl

theorem Foot.low' {w w' w0 : World} {P : Pl} {T0 : Nat → Prop} {v : Value} {T' : Nat → Prop} {x : St} (h : StIn w P T0 v x) (hf : Foot (setT P T0 v) T' w w') {C : Nat} (hC : C ≤ P.B) (hw : C ≤ w.heap.size) (hk : Below C w0 w) : Below C w0 w' := hk.trans (hf.below (fun g hg => Nat.le_trans hC (h.lt g hg).1) hw)
end Go.Proofs.YtldjglmelbkngaaGreat.Tape
