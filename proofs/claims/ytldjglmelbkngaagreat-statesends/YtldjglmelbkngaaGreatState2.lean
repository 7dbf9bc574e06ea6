/- A State's calls as plain functions; how much room each leaves; no walk. -/
import Derived.Test.YtldjglmelbkngaaGreatState1
namespace Go.Proofs.YtldjglmelbkngaaGreat.Tape
open Go.ChangeShapes Go.WideShapes Go.ChangeAt Go.RowKit
set_option linter.unusedVariables false

def nilV : Value := .slice none 0 0
def tdC (k why : Int) (v : Value) : Array Value := #[.int .u8 k, .int .u8 why, v]
def St.tell (x : St) (k why : Int) (v : Value) : St := { x with told := x.told ++ [tdC k why v] }
def St.forget (x : St) : St := { x with lk := lk0, their := false, held := false }
def St.clr1 (x : St) : St := x.setA x.A.end_
def St.clr2 (x : St) : St := x.clr1.setJ x.clr1.J.clear
def St.clr (x : St) : St := x.clr2.setC (List.replicate 8 0)
def St.down (x : St) (why : Int) : St := ({ ({ x.clr with s := 0 } : St).forget with fl := x.fl + 1 } : St).tell 2 why nilV
def St.fail (x : St) (why : Int) : St := if x.s = 0 then x else x.down why
def St.failFor (x : St) (why : Int) : St := if why = 0 then x else x.fail why
def St.inUse (x : St) : Bool := decide (x.s = 4 ∨ x.s = 5)
def St.stop (x : St) (k : Int) : St := x.setC (stp x.A.xs k)
def St.start (x : St) (k : Nat) : St := x.setC (x.A.xs.set k (x.A.t k))
def St.waits (x : St) : Bool := decide (0 < x.hs.sent.length)
def St.on7 (x : St) : Bool := lft x.A.xs 7 != 0
def St.await (x : St) : St := if x.waits = true ∧ x.on7 = false then x.start 7 else x
def St.answered (x : St) : St := (x.stop 7).await
def St.halt5 (x : St) : St := { x with s := 5 }
def St.halt (x : St) : St := (x.halt5.setJ x.J.clear).stop 7
def St.isOut (x : St) : Bool := x.own || (x.their || x.held)
def St.goOn (x : St) : St := if x.s ≠ 5 ∨ x.isOut = true then x else ({ x with s := 4 } : St).await
def St.met (x : St) : St := ({ x.stop 1 with s := 4 } : St).tell 1 0 nilV
def St.meet (x : St) : St := if x.s ≠ 2 ∧ x.s ≠ 3 then x else if x.isOut = true then x.met.halt else x.met
def St.beg (x : St) : St := ({ x.setW x.wt.rs ⟨x.hs.most, x.hs.oct, 0, [], []⟩ with s := 1 } : St).forget
def St.begin_ (x : St) : St := if x.s = 0 then x.beg.setA x.A.begin_ else x
def St.beginE (x : St) : Int := if x.s = 0 then 0 else 9
def St.stopO (x : St) : St := x.fail 10
def St.stopE (x : St) : Int := if x.s = 0 then 9 else 0
def St.local_ (x : St) (o : Bool) : St :=
  if x.own = o then x
  else if x.s = 4 then ({ x with own := o } : St).halt
  else if x.s = 5 then ({ x with own := o } : St).goOn
  else if x.s = 2 then { x with own := o, s := 3 }
  else if x.s = 3 then { x with own := o, s := 2 }
  else { x with own := o }
def St.resume (x : St) : St := if goes x.own x.their = true then ({ x with held := false } : St).goOn else x
def St.resumeE (x : St) : Int := if goes x.own x.their = true then 0 else 9
def St.busy (x : St) (on : Bool) : St := if x.inUse = true then (if on = true then x.setJ x.J.begin_ else x.setJ x.J.end_) else x
def St.busyE (x : St) : Int := if x.inUse = true then 0 else 9
def St.ranAl (x : St) (k : Int) : St :=
  if x.A.proved k = true then ({ (x.setA (x.A.out k)).failFor (x.A.outWhy k) with s := if x.own = true then 3 else 2 } : St).start 1
  else (x.setA (x.A.out k)).failFor (x.A.outWhy k)
def St.ranOut (x : St) (k : Int) : St :=
  if x.s = 0 then x
  else if x.s = 1 then x.ranAl k
  else if k = 1 ∧ x.inUse = false then x.fail 6
  else if k = 7 ∧ x.s = 4 then x.fail 2
  else (x.setJ (x.J.out k)).failFor (x.J.why k)
def St.tick (x : St) : St := (outs 0 x.A.xs).foldl (fun y k => y.ranOut (k : Nat)) (x.setC (x.A.xs.map tk))
def St.lkU (x : St) (wr : Bool) : St := { x with lk := x.lk.unit wr }
def St.count (x : St) (wr : Bool) : St :=
  if x.s = 0 then x
  else if x.s = 1 then (x.setA (x.A.unit wr)).failFor (x.A.unitWhy wr)
  else if 64 ≤ (x.lk.unit wr).n then (x.lkU wr).fail 1
  else x.lkU wr
def St.their_ (x : St) (o : Bool) : St := { x with their := o, held := x.held || o }
def St.theyOut2 (x : St) : St := if x.their = true then x.their_ true else (x.their_ true).tell 4 0 nilV
def St.halted (x : St) : St := if x.s = 4 then x.halt else x
def St.theyOut (x : St) : St := x.meet.theyOut2.halted
def St.theyIn (x : St) : St := if x.their = true then ((x.their_ false).tell 5 0 nilV).goOn else x
def St.jamHeard (x : St) : St := if x.J.their = true then x.setJ (x.J.heard x.waits) else (x.setJ (x.J.heard x.waits)).tell 6 0 nilV
def St.heardLink (x : St) (st : Int) : St :=
  if st = 3 then x.fail 8
  else if st = 0 ∨ (x.inUse = true ∧ (st = 1 ∨ st = 2)) then x.fail 9
  else if st = 4 then x.theyOut
  else if st = 5 ∧ x.s = 4 then x.jamHeard
  else x
def St.ans (x : St) (b : Int) (ub : Bool) : St := x.setW (x.wt.an x.hs b ub).1.1 (x.wt.an x.hs b ub).1.2
def St.ans2 (x : St) (b : Int) (ub : Bool) : St := if 0 < (x.wt.an x.hs b ub).2.1 ∧ x.s = 4 then (x.ans b ub).answered else x.ans b ub
def St.jamAns (x : St) (g : Int) : St := if 0 < g ∨ x.waits = false then (if x.J.their = true then (x.setJ x.J.answer).tell 7 0 nilV else x.setJ x.J.answer) else x
def St.hearOk (x : St) (b : Int) (ub : Bool) : Bool := (x.wt.an x.hs b ub).2.2 != 10
def St.hearAns (x : St) (b : Int) (ub : Bool) : St := if x.hearOk b ub = true then (x.ans2 b ub).jamAns (x.wt.an x.hs b ub).2.1 else (x.ans b ub).fail 4
def St.take (x : St) (f k : Int) (uf : Bool) : St := x.setW (x.wt.tk f k uf).1 x.hs
def St.take2 (x : St) (f k : Int) (uf : Bool) : St := if (x.wt.tk f k uf).2.2 = 10 then (x.take f k uf).fail 4 else x.take f k uf
def St.take3 (x : St) (f k : Int) (uf : Bool) (q : Value) : St := if (x.wt.tk f k uf).2.1 = true then (x.take2 f k uf).tell 3 0 q else x.take2 f k uf
/-- Is what comes taken? -/
def St.takes (x : St) : Bool := !x.own && !x.J.own
def St.mt (x : St) : St := x.meet.theyIn
def St.heardOther (x : St) (b f k : Int) (ub uf : Bool) (q : Value) : St :=
  if x.mt.hearOk b ub = true ∧ (x.mt.hearAns b ub).takes = true then (x.mt.hearAns b ub).take3 f k uf q else x.mt.hearAns b ub
def St.hear2 (x : St) (b f k st : Int) (ub uf : Bool) (q : Value) : St :=
  if x.s = 0 then x
  else if k = 1 then (if x.s = 1 then (x.setA (x.A.heard st)).failFor (x.A.why st) else x.heardLink st)
  else if x.s = 1 then x
  else x.heardOther b f k ub uf q
def St.hear (x : St) (b f k st : Int) (ub uf : Bool) (q : Value) : St := (x.count false).hear2 b f k st ub uf q
def St.toldJ (x : St) : St := x.setJ x.J.told
def St.nxt (x : St) : St := x.toldJ.setW (x.wt.nx x.hs).1.1 (x.wt.nx x.hs).1.2
def St.stop7 (x : St) : St := if x.waits = true then x else x.stop 7
def St.nextS (x : St) : St := if x.J.due = true then x.toldJ else x.nxt.await.stop7
def St.next (x : St) : St := if x.s = 4 then x.nextS else x
/-- Which unit goes. -/
def St.nk (x : St) : Int := if x.s = 0 ∨ x.s = 1 then 1 else if x.s = 4 then (if x.J.due = true then 1 else kd (x.wt.nx x.hs).2.2) else if x.s ≠ 2 ∧ x.own = true then 1 else 0
def St.ns (x : St) : Int := if x.s = 0 ∨ x.s = 1 then x.A.sends else if x.s = 4 then (if x.J.due = true then 5 else 0) else if x.s ≠ 2 ∧ x.own = true then 4 else 0

/-! ### Room -/
theorem Room.mono {k k' : Nat} {x : St} (h : Room k x) (hk : k' ≤ k) : Room k' x := by
  obtain ⟨h1, h2, h3, h4, h5, h6, h7⟩ := h
  exact ⟨by omega, by omega, by omega, h4, by omega, by omega, h7⟩
/-- The same numbers. -/
theorem Room.same {k : Nat} {x y : St} (h : Room k x) (h1 : y.told = x.told) (h2 : y.fl = x.fl) (h3 : y.lk = x.lk) (h4 : y.A.n = x.A.n) (h5 : y.A.tries = x.A.tries) (h6 : y.A.st = x.A.st) : Room k y := by
  obtain ⟨r1, r2, r3, r4, r5, r6, r7⟩ := h
  exact ⟨by rw [h1]; exact r1, by rw [h2]; exact r2, by rw [h3]; exact r3, by rw [h3]; exact r4, by rw [h4]; exact r5, by rw [h5]; exact r6, by rw [h6]; exact r7⟩
theorem Room.tell {k : Nat} {x : St} (h : Room (k + 1) x) (a b : Int) (v : Value) : Room k (x.tell a b v) := by
  obtain ⟨r1, r2, r3, r4, r5, r6, r7⟩ := h
  refine ⟨?_, by show 0 ≤ x.fl ∧ x.fl + (k : Int) ≤ 1000; omega, by show x.lk.n + k ≤ 1000; omega, r4, ⟨r5.1, by show x.A.n + (k : Int) ≤ 1000; omega⟩, ⟨r6.1, by show x.A.tries + (k : Int) ≤ 1000; omega⟩, r7⟩
  show (x.told ++ [tdC a b v]).length + k ≤ 1000
  simp only [List.length_append, List.length_singleton]
  omega
/-- What an Align's numbers have room for. -/
def RA (k : Nat) (A : Al) : Prop := (0 ≤ A.n ∧ A.n + k ≤ 1000) ∧ (0 ≤ A.tries ∧ A.tries + k ≤ 1000) ∧ 0 ≤ A.st ∧ A.st ≤ 3
theorem Room.ra {k : Nat} {x : St} (h : Room k x) : RA k x.A := ⟨h.an, h.tries, h.st⟩
theorem Room.setA {k : Nat} {x : St} {A : Al} (h : Room k x) (hA : RA k A) : Room k (x.setA A) := ⟨h.told, h.fl, h.n, h.s, hA.1, hA.2.1, hA.2.2⟩
theorem RA.mono {k k' : Nat} {A : Al} (h : RA k A) (hk : k' ≤ k) : RA k' A := by
  obtain ⟨⟨h1, h2⟩, ⟨h3, h4⟩, h5⟩ := h
  exact ⟨⟨h1, by omega⟩, ⟨h3, by omega⟩, h5⟩
theorem RA.prove {k : Nat} {A : Al} (h : RA k A) : RA k A.prove := ⟨⟨by show (0 : Int) ≤ 0; decide, by have := h.1; show (0 : Int) + k ≤ 1000; omega⟩, h.2.1, by show (0 : Int) ≤ 3 ∧ (3 : Int) ≤ 3; decide⟩
theorem RA.near {k : Nat} {A : Al} (h : RA k A) : RA k A.near := ⟨h.1, h.2.1, by show (0 : Int) ≤ 2 ∧ (2 : Int) ≤ 3; decide⟩
theorem RA.begin_ {k : Nat} {A : Al} (h : RA k A) : RA k A.begin_ := ⟨h.1, ⟨by show (0 : Int) ≤ 0; decide, by have := h.1; show (0 : Int) + k ≤ 1000; omega⟩, by show (0 : Int) ≤ 1 ∧ (1 : Int) ≤ 3; decide⟩
theorem RA.end_ {k : Nat} {A : Al} (h : RA k A) : RA k A.end_ := ⟨h.1, h.2.1, by show (0 : Int) ≤ 0 ∧ (0 : Int) ≤ 3; decide⟩
theorem RA.hears {k : Nat} {A : Al} (h : RA k A) (s : Int) : RA k (A.hears s) := h
theorem RA.quicken {k : Nat} {A : Al} (h : RA k A) (b : Bool) : RA k (A.quicken b) := by
  unfold Al.quicken
  split
  · exact h.prove
  · exact h
theorem RA.hurry {k : Nat} {A : Al} (h : RA k A) (b : Bool) : RA k (A.hurry b) := RA.quicken (A := { A with own := b }) h _
theorem RA.heard {k : Nat} {A : Al} (h : RA k A) (s : Int) : RA k (A.heard s) := by
  unfold Al.heard
  repeat' split
  all_goals first | exact h | exact RA.near (RA.hears h s) | exact RA.hears h s | exact RA.quicken (RA.hears h s) _ | exact RA.prove (A := { A.hears s with tries := 0 }) ⟨h.1, ⟨by show (0 : Int) ≤ 0; decide, by have := h.1; show (0 : Int) + k ≤ 1000; omega⟩, h.2.2⟩
theorem RA.out {k : Nat} {A : Al} (h : RA k A) (s : Int) : RA k (A.out s) := by
  unfold Al.out
  split
  · exact h.end_
  · exact h
theorem RA.unit {k : Nat} {A : Al} (h : RA (k + 1) A) (b : Bool) : RA k (A.unit b) := by
  obtain ⟨⟨h1, h2⟩, ⟨h3, h4⟩, h5⟩ := h
  have hn : ∀ n : Int, (0 : Int) ≤ 0 ∧ (0 : Int) + k ≤ 1000 := fun _ => ⟨by decide, by omega⟩
  unfold Al.unit
  have hd : (0 : Int) ≤ (if b = true then 1 else 0) ∧ (if b = true then (1 : Int) else 0) ≤ 1 := by cases b <;> decide
  generalize (if b = true then (1 : Int) else 0) = d at *
  repeat' split
  · exact ⟨⟨h1, by omega⟩, ⟨h3, by omega⟩, h5⟩
  · exact ⟨⟨by show (0 : Int) ≤ A.n + d; omega, by show A.n + d + (k : Int) ≤ 1000; omega⟩, ⟨h3, by show A.tries + (k : Int) ≤ 1000; omega⟩, h5⟩
  · exact ⟨hn 0, ⟨by show (0 : Int) ≤ A.tries + 1; omega, by show A.tries + 1 + (k : Int) ≤ 1000; omega⟩, h5⟩
  · exact RA.prove (A := { A with n := 0, tries := A.tries + 1 }) ⟨hn 0, ⟨by show (0 : Int) ≤ A.tries + 1; omega, by show A.tries + 1 + (k : Int) ≤ 1000; omega⟩, h5⟩

/-! ### Timers stay -/
theorem t_quicken (A : Al) (b : Bool) : (A.quicken b).t = A.t := by unfold Al.quicken; split <;> rfl
theorem t_heard (A : Al) (s : Int) : (A.heard s).t = A.t := by
  unfold Al.heard
  repeat' split
  all_goals first | rfl | exact t_quicken _ _
theorem t_unit (A : Al) (b : Bool) : (A.unit b).t = A.t := by
  unfold Al.unit
  repeat' split
  all_goals rfl
theorem t_out (A : Al) (s : Int) : (A.out s).t = A.t := by unfold Al.out; split <;> rfl
theorem t_hurry (A : Al) (b : Bool) : (A.hurry b).t = A.t := t_quicken _ _

/-! ### Its way's method stays -/
theorem cyc_an (x : Wt) (s : Hs) (b : Int) (ub : Bool) : (x.an s b ub).1.1.cyclic = x.cyclic := by
  cases x <;> (simp only [Wt.an]; split <;> rfl)
theorem cyc_nx (x : Wt) (s : Hs) : (x.nx s).1.1.cyclic = x.cyclic := by cases x <;> rfl
theorem cyc_tk (x : Wt) (f k : Int) (uf : Bool) : (x.tk f k uf).1.cyclic = x.cyclic := by
  cases x
  · simp only [Wt.tk]
    repeat' split
    all_goals rfl
  · simp only [Wt.tk]
    split <;> rfl
theorem cyc_rs (x : Wt) : x.rs.cyclic = x.cyclic := by cases x <;> rfl

theorem StAt.mono {w : World} {P : Pl} {k k' : Nat} {T : Nat → Prop} {x : St} (h : StAt w P k T x) (hk : k' ≤ k) : StAt w P k' T x := ⟨h.1.mono hk, h.2⟩
theorem StAt.keep {w w' : World} {P : Pl} {k : Nat} {T : Nat → Prop} {x : St} (h : StAt w P k T x) (hb : Below w.heap.size w w') : StAt w' P k T x := by
  obtain ⟨hr, T0, v, rfl, hi⟩ := h
  exact ⟨hr, T0, v, rfl, hi.keep hb⟩
theorem StAt.room {w : World} {P : Pl} {k k' : Nat} {T : Nat → Prop} {x : St} (h : StAt w P k T x) (hr : Room k' x) : StAt w P k' T x := ⟨hr, h.2⟩
theorem StAt.lt {w : World} {P : Pl} {k : Nat} {T : Nat → Prop} {x : St} (h : StAt w P k T x) : (∀ g, T g → P.B ≤ g ∧ g < w.heap.size) ∧ P.B ≤ w.heap.size := by
  obtain ⟨hr, T0, v, rfl, hi⟩ := h
  exact ⟨hi.lt, Nat.le_of_lt (Nat.lt_of_le_of_lt hi.low.1 (heap_lt hi.cells))⟩
theorem StAt.low {w w' w0 : World} {P : Pl} {k : Nat} {T T' : Nat → Prop} {x : St} (h : StAt w P k T x) (hf : Foot T T' w w') {C : Nat} (hC : C ≤ P.B) (hk : Below C w0 w) : Below C w0 w' := hk.trans (hf.below (fun g hg => Nat.le_trans hC (h.lt.1 g hg).1) (Nat.le_trans hC h.lt.2))

/-- The contract of a call of a State: what it leaves, what it answers. -/
def SC (P : Pl) (m f : Nat) (args : Array Value) (x : St) (ret : Value) (x' : St) : Prop :=
  ∀ k w T, StAt w P (k + m) T x → Calls Tryz.prog f args w fun e w' => e = .returned ret ∧ ∃ T', StAt w' P k T' x' ∧ Foot T T' w w'
end Go.Proofs.YtldjglmelbkngaaGreat.Tape
