/- The reference's Answer and Take of a cyclic way. -/
import Derived.Test.YtmnhciildlmjcaaRefC7
namespace Go.Proofs.Ytmnhciildlmjcaa.Tape
open Go.ChangeShapes Go.WideShapes Go.ChangeAt Go.RowKit
set_option linter.unusedVariables false

theorem side_setb {w : World} {B : Nat} {L : Value} {a f m o : Int} {t : Cs} (h : w.heap[B]? = some (.cells (sideC L a f m o (tlC t)) 28 (0, 0))) (b : Bool) : ((w.setCell ⟨B, 14, none⟩ (.bool t.b0)).setCell ⟨B, 15, none⟩ (.bool b)).heap[B]? = some (.cells (sideC L a f m o (tlC { t with b0 := b, b1 := t.b0 })) 28 (0, 0)) :=
  row_set (cs := [L, .int .i64 a, .int .i64 f, .int .i64 m, .int .i64 o, .bool true, .int .i64 t.n1, .int .i64 t.n2, .bool true, .bool true, .int .i64 t.last, .bool false, .int .i64 t.pl, .bool t.force, .bool t.b0, .bool t.b0, .bool false, .bool false])
    (row_set (cs := [L, .int .i64 a, .int .i64 f, .int .i64 m, .int .i64 o, .bool true, .int .i64 t.n1, .int .i64 t.n2, .bool true, .bool true, .int .i64 t.last, .bool false, .int .i64 t.pl, .bool t.force, .bool t.b1, .bool t.b0, .bool false, .bool false]) h 14 (.bool t.b0)) 15 (.bool b)
theorem side_setl {w : World} {B : Nat} {L : Value} {a f m o : Int} {t : Cs} (h : w.heap[B]? = some (.cells (sideC L a f m o (tlC t)) 28 (0, 0))) (x : Int) : (w.setCell ⟨B, 10, none⟩ (.int .i64 x)).heap[B]? = some (.cells (sideC L a f m o (tlC { t with last := x })) 28 (0, 0)) :=
  row_set (cs := [L, .int .i64 a, .int .i64 f, .int .i64 m, .int .i64 o, .bool true, .int .i64 t.n1, .int .i64 t.n2, .bool true, .bool true, .int .i64 t.last, .bool false, .int .i64 t.pl, .bool t.force, .bool t.b1, .bool t.b0, .bool false, .bool false]) h 10 (.int .i64 x)

/-- In Answer and Take: a Side and a unit in their blocks, and the Side that goes back. -/
structure AH (w Y : World) (L : Value) (a f m o : Int) (t : Cs) (cu : Array Value) : Prop where
  low : Below w.heap.size w Y
  s0 : Y.heap[w.heap.size]? = some (.cells (sideC L a f m o (tlC t)) 28 (0, 0))
  u1 : Y.heap[w.heap.size + 1]? = some (.cells cu 32 (0, 0))
  s2 : Y.heap[w.heap.size + 1 + 1]? = some (.cells zeroS 28 (0, 0))
theorem AH.begin (w : World) (L : Value) (a f m o : Int) (t : Cs) (cu : Array Value) : ∃ W, W = ((w.alloc (.cells (sideC L a f m o (tlC t)) 28)).alloc (.cells cu 32)).alloc (.cells #[.slice none 0 0, .int .i64 0, .int .i64 0, .int .i64 0, .int .i64 0, .bool false, .int .i64 0, .int .i64 0, .bool false, .bool false, .int .i64 0, .bool false, .int .i64 0, .bool false, .bool false, .bool false, .bool false, .bool false] 28) ∧ AH w W L a f m o t cu := by
  refine ⟨_, rfl, (((Below.refl w.heap.size w).alloc (Nat.le_refl _) _).alloc (by simp) _).alloc (by simp; omega) _, heap_more (heap_more (heap_alloc_new w _) _) _, heap_more ?_ _, ?_⟩
  · have := heap_alloc_new (w.alloc (.cells (sideC L a f m o (tlC t)) 28)) (.cells cu 32)
    simpa using this
  · have := heap_alloc_new ((w.alloc (.cells (sideC L a f m o (tlC t)) 28)).alloc (.cells cu 32)) (.cells zeroS 28)
    simpa [zeroS] using this
theorem AH.below {w Y Y' : World} {L : Value} {a f m o : Int} {t : Cs} {cu : Array Value} (h : AH w Y L a f m o t cu) (hb : Below Y.heap.size Y Y') : AH w Y' L a f m o t cu :=
  ⟨h.low.trans (below_le hb h.low.size), (hb.block _ (heap_lt h.s0)).trans h.s0, (hb.block _ (heap_lt h.u1)).trans h.u1, (hb.block _ (heap_lt h.s2)).trans h.s2⟩
theorem AH.set {w Y Y' : World} {L L' : Value} {a f m o a' f' m' o' : Int} {t t' : Cs} {cu : Array Value} (h : AH w Y L a f m o t cu) (hg : Y.grownBy Y' (some w.heap.size)) (hs : Y'.heap[w.heap.size]? = some (.cells (sideC L' a' f' m' o' (tlC t')) 28 (0, 0))) : AH w Y' L' a' f' m' o' t' cu :=
  ⟨gb_below hg h.low (Nat.le_refl _) h.low.size, hs, (hg.block _ (heap_lt h.u1) (by simp)).trans h.u1, (hg.block _ (heap_lt h.s2) (by simp; omega)).trans h.s2⟩
theorem AH.cells {w Y : World} {L : Value} {a f m o : Int} {t : Cs} {cu : Array Value} (h : AH w Y L a f m o t cu) : (Y.cell? ⟨w.heap.size, 5, none⟩ = some (.bool true) ∧ Y.cell? ⟨w.heap.size, 10, none⟩ = some (.int .i64 t.last)) ∧ (Y.cell? ⟨w.heap.size, 12, none⟩ = some (.int .i64 t.pl) ∧ Y.cell? ⟨w.heap.size, 14, none⟩ = some (.bool t.b1) ∧ Y.cell? ⟨w.heap.size, 15, none⟩ = some (.bool t.b0)) ∧ (ldS (.pointer (some ⟨w.heap.size, 0, none⟩))).run Try.prog Y = .ok (.agg (sideC L a f m o (tlC t))) Y ∧ ∀ k, Y.frozen? ⟨w.heap.size, k, none⟩ = false :=
  ⟨⟨(side_all h.s0).1.1, (side_all h.s0).1.2.2.2.2.2⟩, ⟨(side_all h.s0).2.1, (side_all h.s0).2.2.2.1, (side_all h.s0).2.2.2.2⟩, (ld_side h.s0 rfl).1, (side_cells h.s0).2⟩
/-- The Side goes back. -/
theorem AH.back {w Y : World} {L : Value} {a f m o : Int} {t : Cs} {cu : Array Value} (h : AH w Y L a f m o t cu) {ds : Array Value} (hd : ds.size = 18) (hd1 : ds.all (·.oneCell') = true) :
    ∃ Y2, (stS (.pointer (some ⟨w.heap.size + 1 + 1, 0, none⟩)) (.agg ds)).run Try.prog Y = .ok () Y2 ∧ Hid ((loadVar 28 ⟨w.heap.size + 1 + 1, 0, none⟩).run Try.prog Y2 = .ok (.agg ds) Y2 ∧ Below w.heap.size w Y2) := by
  obtain ⟨Y2, e1, e2, e3⟩ := Tape.back h.s2 rfl hd hd1 h.low (show w.heap.size ≤ w.heap.size + 1 + 1 by omega)
  exact ⟨Y2, e1, e2, e3⟩

attribute [local go_sem ↓] ldS_def stS_def ldU_def stU_def

set_option maxRecDepth 100000 in
set_option maxHeartbeats 1000000 in
theorem ranswer_odd {w : World} {lo : Option Addr} {n cap : Nat} (t : Cs) (a f m o : Int) (b x k st r : Int) (ub uf wd : Bool) (v : Value) (hb0 : 0 ≤ b) (hb1 : b ≤ 255) (hf0 : 0 ≤ f) (hf1 : f < 128) (hbh : bhd a f b = -1) (hr : r = if t.b0 || t.b1 then 10 else 0) :
    Calls Try.prog 15 #[.agg (sideC (.slice lo n cap) a f m o (tlC t)), .agg #[.int .u8 b, .int .u8 x, .bool ub, .bool uf, .int .u8 k, .int .u8 st, .bool wd, v]] w fun e w' => e = .returned (.tuple #[.agg (sideC (.slice lo n cap) a f m o (tlC { t with b0 := true, b1 := t.b0 })), .int .i64 0, .int .i64 r]) ∧ Below w.heap.size w w' := by
  obtain ⟨W, hW, hA⟩ := AH.begin w (.slice lo n cap) a f m o t #[.int .u8 b, .int .u8 x, .bool ub, .bool uf, .int .u8 k, .int .u8 st, .bool wd, v]
  have hld := hA.cells.2.2.1
  obtain ⟨⟨u0, -⟩, -⟩ := unit_cells hA.u1
  have hbe := rbehind_any (.slice lo n cap) a f m o (tlC t) b W hf0 hf1 (by omega) (by omega)
  rw [hbh] at hbe
  have HA : Hid (AH w W (.slice lo n cap) a f m o t #[.int .u8 b, .int .u8 x, .bool ub, .bool uf, .int .u8 k, .int .u8 st, .bool wd, v]) := hA
  clear hA hbh
  go_enter Try.func15, Try.ntmps15
  go_upto_region 1 with fail
  rw [← hW]
  clear hW
  go_upto_region 2 with (go_at_call 40; refine hbe.mono ?_; rintro e W1 ⟨rfl, hB1⟩)
  have hA1 := HA.out.below hB1
  obtain ⟨-, ⟨-, c14, c15⟩, -, hz⟩ := hA1.cells
  have z14 := hz 14
  have z15 := hz 15
  have hA2 := hA1.set (t' := { t with b0 := true, b1 := t.b0 }) ((gb_set (k := 14) (.bool t.b0)).trans (gb_set (k := 15) (.bool true))) (side_setb hA1.s0 true)
  obtain ⟨W2, hW2⟩ : ∃ W2, W2 = (W1.setCell ⟨w.heap.size, 14, none⟩ (.bool t.b0)).setCell ⟨w.heap.size, 15, none⟩ (.bool true) := ⟨_, rfl⟩
  rw [← hW2] at hA2
  have hld2 := hA2.cells.2.2.1
  obtain ⟨W3, hst3, HW3⟩ := hA2.back (ds := sideC (.slice lo n cap) a f m o (tlC { t with b0 := true, b1 := t.b0 })) rfl (sideC_one _ _ _ _ _ _ _ _)
  obtain ⟨p0, hp0⟩ : ∃ p0, p0 = t.b0 := ⟨_, rfl⟩
  obtain ⟨p1, hp1⟩ : ∃ p1, p1 = t.b1 := ⟨_, rfl⟩
  have HP : Hid (p0 = t.b0 ∧ p1 = t.b1) := ⟨hp0, hp1⟩
  rw [← hp0] at c15 hr hW2
  rw [← hp1] at c14 hr
  clear hA1 hA2 hB1 hbe hld u0 hz hp0 hp1
  cases p0 <;> cases p1
  all_goals
    simp only [Bool.or_false, Bool.or_true, Bool.false_eq_true, if_false, if_true] at hr
    subst hr
    go_upto_region 5 with fail
    rw [← hW2]
    clear hW2 c14 c15 z14 z15
    go_wp2
    refine bodyPost_ret (v := .tuple #[.agg (sideC (.slice lo n cap) a f m o (tlC { t with b0 := true, b1 := t.b0 })), .int .i64 0, _]) (by simp [results, Try.results15, asAddr, HW3.out.1]; rfl) rfl ?_
    exact ⟨rfl, HW3.out.2⟩
end Go.Proofs.Ytmnhciildlmjcaa.Tape
