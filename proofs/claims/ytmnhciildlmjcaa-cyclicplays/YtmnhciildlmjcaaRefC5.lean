/- The reference's again of a cyclic way: what goes back from a region that draws its order. -/
import Derived.Test.YtmnhciildlmjcaaRefC4
namespace Go.Proofs.Ytmnhciildlmjcaa.Tape
open Go.ChangeShapes Go.WideShapes Go.ChangeAt Go.RowKit
set_option linter.unusedVariables false

/-- The type of a block tells two blocks apart. -/
theorem five_keep {Y Y1 : World} {p : Nat} {cp : Array Value} {tp : TypeId} (hp : Y.heap[p]? = some (.cells cp tp (0, 0))) (n1 : tp ≠ 5) (g1 : Y.grownBy Y1 (some p)) (g : Nat) (cur : Array Value) (hg : Y.heap[g]? = some (.cells cur 5 (0, 0))) : Y1.heap[g]? = Y.heap[g]? :=
  g1.block g (heap_lt hg) (fun e => by
    simp only [Option.some.injEq] at e
    subst e
    rw [hp] at hg
    simp only [Option.some.injEq, Obj.cells.injEq] at hg
    exact n1 hg.2.1)

/-- A Side in a block c, and the two that go back, empty still. -/
structure BK (w Y : World) (c : Nat) (ds : Array Value) : Prop where
  low : Below w.heap.size w Y
  sc : Y.heap[c]? = some (.cells ds 28 (0, 0))
  s1 : Y.heap[w.heap.size + 1]? = some (.cells zeroS 28 (0, 0))
  s2 : Y.heap[w.heap.size + 1 + 1]? = some (.cells zeroU 32 (0, 0))
  c1 : c ≠ w.heap.size + 1
  c2 : c ≠ w.heap.size + 1 + 1
  sz : ds.size = 18
  one : ds.all (·.oneCell') = true
/-- .. the Side has gone back. -/
structure BL (w Y : World) (c : Nat) (ds : Array Value) : Prop where
  low : Below w.heap.size w Y
  sc : Y.heap[c]? = some (.cells ds 28 (0, 0))
  s1 : Y.heap[w.heap.size + 1]? = some (.cells ds 28 (0, 0))
  s2 : Y.heap[w.heap.size + 1 + 1]? = some (.cells zeroU 32 (0, 0))
  sz : ds.size = 18

theorem BK.below {w Y Y' : World} {c : Nat} {ds : Array Value} (h : BK w Y c ds) (hb : Below Y.heap.size Y Y') : BK w Y' c ds :=
  ⟨h.low.trans (below_le hb h.low.size), (hb.block _ (heap_lt h.sc)).trans h.sc, (hb.block _ (heap_lt h.s1)).trans h.s1, (hb.block _ (heap_lt h.s2)).trans h.s2, h.c1, h.c2, h.sz, h.one⟩
theorem BL.below {w Y Y' : World} {c : Nat} {ds : Array Value} (h : BL w Y c ds) (hb : Below Y.heap.size Y Y') : BL w Y' c ds :=
  ⟨h.low.trans (below_le hb h.low.size), (hb.block _ (heap_lt h.sc)).trans h.sc, (hb.block _ (heap_lt h.s1)).trans h.s1, (hb.block _ (heap_lt h.s2)).trans h.s2, h.sz⟩
theorem BK.ld {w Y : World} {c : Nat} {ds : Array Value} (h : BK w Y c ds) : (ldS (.pointer (some ⟨c, 0, none⟩))).run Try.prog Y = .ok (.agg ds) Y := (ld_side h.sc h.sz).1
theorem BL.ld {w Y : World} {c : Nat} {ds : Array Value} (h : BL w Y c ds) : (ldS (.pointer (some ⟨c, 0, none⟩))).run Try.prog Y = .ok (.agg ds) Y := (ld_side h.sc h.sz).1

/-- The Side goes back. -/
theorem BK.side {w Y : World} {c : Nat} {ds : Array Value} (h : BK w Y c ds) : ∃ Y1, (stS (.pointer (some ⟨w.heap.size + 1, 0, none⟩)) (.agg ds)).run Try.prog Y = .ok () Y1 ∧ Hid (BL w Y1 c ds ∧ ∀ (g : Nat) cur, Y.heap[g]? = some (.cells cur 5 (0, 0)) → Y1.heap[g]? = Y.heap[g]?) := by
  have g1 := putS_gb Y (w.heap.size + 1) ds
  refine ⟨_, st_side h.s1 rfl h.sz h.one, ⟨gb_below g1 h.low (Nat.le_succ _) h.low.size, (g1.block _ (heap_lt h.sc) (by simp; exact h.c1)).trans h.sc, putS_heap h.s1 h.sz.symm, (g1.block _ (heap_lt h.s2) (by simp)).trans h.s2, h.sz⟩, fun g cur hg => five_keep h.s1 (by decide) g1 g cur hg⟩

/-- What both that go back hold. -/
def Back (w Y : World) (ds us : Array Value) : Prop := (loadVar 28 ⟨w.heap.size + 1, 0, none⟩).run Try.prog Y = .ok (.agg ds) Y ∧ (loadVar 32 ⟨w.heap.size + 1 + 1, 0, none⟩).run Try.prog Y = .ok (.agg us) Y

/-- .. and then the unit. -/
theorem BL.unit {w Y : World} {c : Nat} {ds us : Array Value} (h : BL w Y c ds) (h8 : us.size = 8) (h1 : us.all (·.oneCell') = true) : ∃ Y2, (stU (.pointer (some ⟨w.heap.size + 1 + 1, 0, none⟩)) (.agg us)).run Try.prog Y = .ok () Y2 ∧ Hid (Back w Y2 ds us ∧ Below w.heap.size w Y2 ∧ (∀ (g : Nat) cur, Y.heap[g]? = some (.cells cur 5 (0, 0)) → Y2.heap[g]? = Y.heap[g]?) ∧ (c ≠ w.heap.size + 1 + 1 → Y2.heap[c]? = some (.cells ds 28 (0, 0)))) := by
  have g1 := putU_gb Y (w.heap.size + 1 + 1) us
  have r1 := putU_heap (ds := us) h.s2 h8.symm
  refine ⟨_, st_unit h.s2 rfl h8 h1, ⟨(ld_side ((g1.block _ (heap_lt h.s1) (by simp)).trans h.s1) h.sz).2, (ld_unit r1 h8).2⟩, gb_below g1 h.low (show w.heap.size ≤ w.heap.size + 1 + 1 by omega) h.low.size, fun g cur hg => five_keep h.s2 (by decide) g1 g cur hg, fun hc => (g1.block _ (heap_lt h.sc) (by simpa using hc)).trans h.sc⟩

/-- Both go back, the unit first. -/
theorem BK.unit {w Y : World} {c : Nat} {ds us : Array Value} (h : BK w Y c ds) (h8 : us.size = 8) (h1 : us.all (·.oneCell') = true) : ∃ V1 V2, (stU (.pointer (some ⟨w.heap.size + 1 + 1, 0, none⟩)) (.agg us)).run Try.prog Y = .ok () V1 ∧ (stS (.pointer (some ⟨w.heap.size + 1, 0, none⟩)) (.agg ds)).run Try.prog V1 = .ok () V2 ∧ V1.heap[c]? = some (.cells ds 28 (0, 0)) ∧ Hid (Back w V2 ds us ∧ Below w.heap.size w V2 ∧ (∀ (g : Nat) cur, Y.heap[g]? = some (.cells cur 5 (0, 0)) → V2.heap[g]? = Y.heap[g]?) ∧ V2.heap[c]? = some (.cells ds 28 (0, 0))) := by
  have k1 := putU_gb Y (w.heap.size + 1 + 1) us
  have r1 := putU_heap (ds := us) h.s2 h8.symm
  have v1 := (k1.block _ (heap_lt h.s1) (by simp)).trans h.s1
  have m1 := (k1.block _ (heap_lt h.sc) (by simpa using h.c2)).trans h.sc
  have C1 := gb_below k1 h.low (show w.heap.size ≤ w.heap.size + 1 + 1 by omega) h.low.size
  have k2 := putS_gb (putU Y (w.heap.size + 1 + 1) us) (w.heap.size + 1) ds
  have r2 := (k2.block _ (heap_lt r1) (by simp)).trans r1
  have w2 := putS_heap (ds := ds) v1 h.sz.symm
  have m2 := (k2.block _ (heap_lt m1) (by simpa using h.c1)).trans m1
  exact ⟨_, _, st_unit h.s2 rfl h8 h1, st_side v1 rfl h.sz h.one, m1, ⟨(ld_side w2 h.sz).2, (ld_unit r2 h8).2⟩, gb_below k2 C1 (Nat.le_succ _) C1.size, fun g cur hg => by
    have e1 := five_keep h.s2 (by decide) k1 g cur hg
    exact (five_keep v1 (by decide) k2 g cur (e1.trans hg)).trans e1, m2⟩
end Go.Proofs.Ytmnhciildlmjcaa.Tape
