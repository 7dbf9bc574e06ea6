/- The reference's Side of a cyclic way: the contracts of its head, Fill, message, fits. -/
import Derived.Test.YtmnhciildlmjcaaSideB
namespace Go.Proofs.Ytmnhciildlmjcaa.Tape
open Go.ChangeShapes Go.WideShapes Go.ChangeAt Go.RowKit
set_option linter.unusedVariables false

/-- What a Side has of a Cyclic, beside its messages. -/
def tlC (t : Cs) : Tail := ⟨true, t.n1, t.n2, true, true, t.last, false, t.pl, t.force, t.b1, t.b0, false, false⟩

theorem side_all {w : World} {B : Nat} {L : Value} {a f m o : Int} {t : Tail} (h : w.heap[B]? = some (.cells (sideC L a f m o t) 28 (0, 0))) :
    (w.cell? ⟨B, 5, none⟩ = some (.bool t.cyc) ∧ w.cell? ⟨B, 6, none⟩ = some (.int .i64 t.n1) ∧ w.cell? ⟨B, 7, none⟩ = some (.int .i64 t.n2) ∧ w.cell? ⟨B, 8, none⟩ = some (.bool t.fib) ∧ w.cell? ⟨B, 9, none⟩ = some (.bool t.bib) ∧ w.cell? ⟨B, 10, none⟩ = some (.int .i64 t.last)) ∧ w.cell? ⟨B, 12, none⟩ = some (.int .i64 t.place) ∧ w.cell? ⟨B, 13, none⟩ = some (.bool t.force) ∧ w.cell? ⟨B, 14, none⟩ = some (.bool t.b1) ∧ w.cell? ⟨B, 15, none⟩ = some (.bool t.b2) := by
  unfold sideC at h
  refine ⟨⟨?_, ?_, ?_, ?_, ?_, ?_⟩, ?_, ?_, ?_, ?_⟩ <;> rw [Lib.cell_of_heap h] <;> rfl

/-- Two new blocks: a Side that came by value, and the unit that goes back. -/
theorem side_unit (w : World) (L : Value) (a f m o : Int) (t : Tail) : ∃ W, W = (w.alloc (.cells (sideC L a f m o t) 28)).alloc (.cells #[.int .u8 0, .int .u8 0, .bool false, .bool false, .int .u8 0, .int .u8 0, .bool false, .slice none 0 0] 32) ∧ Below w.heap.size w W ∧ W.heap[w.heap.size]? = some (.cells (sideC L a f m o t) 28 (0, 0)) ∧ W.heap[w.heap.size + 1]? = some (.cells zeroU 32 (0, 0)) := by
  refine ⟨_, rfl, ((Below.refl w.heap.size w).alloc (Nat.le_refl _) _).alloc (by simp) _, heap_more (heap_alloc_new w _) _, ?_⟩
  have := heap_alloc_new (w.alloc (.cells (sideC L a f m o t) 28)) (.cells zeroU 32)
  simpa [zeroU] using this

/-- A unit goes back. -/
theorem unit_back {w0 W : World} {C H : Nat} {cs ds : Array Value} (hb : W.heap[H]? = some (.cells cs 32 (0, 0))) (hs : cs.size = 8) (hd : ds.size = 8) (h1 : ds.all (·.oneCell') = true) (hB : Below C w0 W) (hC : C ≤ H) (hw : C ≤ W.heap.size) :
    ∃ W2, (stU (.pointer (some ⟨H, 0, none⟩)) (.agg ds)).run Try.prog W = .ok () W2 ∧ Hid ((loadVar 32 ⟨H, 0, none⟩).run Try.prog W2 = .ok (.agg ds) W2) ∧ Below C w0 W2 ∧ W.grownBy W2 (some H) :=
  ⟨_, st_unit hb hs hd h1, (ld_unit (putU_heap hb (hs.trans hd.symm)) hd).2, gb_below (putU_gb _ _ _) hB hC hw, putU_gb _ _ _⟩

attribute [local go_sem ↓] ldS_def stS_def ldU_def stU_def

set_option maxRecDepth 100000 in
set_option maxHeartbeats 1000000 in
theorem rhead_any (L : Value) (a f m o : Int) (t : Tail) (n : Int) (w : World) (h0 : 0 ≤ t.last) (h1 : t.last < 256) (h2 : 0 ≤ n) (h3 : n < 256) :
    Calls Try.prog 46 #[.agg (sideC L a f m o t), .int .i64 n] w fun e w' => e = .returned (.agg (uC t.last n t.bib t.fib 0 (.slice none 0 0))) ∧ Below w.heap.size w w' := by
  obtain ⟨W, hW, hB, hh, hu⟩ := side_unit w L a f m o t
  obtain ⟨⟨c5, c6, c7, c8, c9, c10⟩, c12, c13, c14, c15⟩ := side_all hh
  have e1 : IntKind.u8.wrap t.last = t.last := by rw [IntKind.wrap_u8]; omega
  have e2 : IntKind.u8.wrap n = n := by rw [IntKind.wrap_u8]; omega
  obtain ⟨W2, hst1, hB2, hh2⟩ := kept_unit W t.last n t.bib t.fib 0 none 0 0
  have hu2 := (hB2.block _ (heap_lt hu)).trans hu
  have hld1 := (ld_unit hh2 rfl).1
  have hst2 := st_unit (ds := uC t.last n t.bib t.fib 0 (.slice none 0 0)) hu2 rfl rfl (uC_one _ _ _ _ _ _ _ _)
  have hld := (ld_unit (putU_heap (ds := uC t.last n t.bib t.fib 0 (.slice none 0 0)) hu2 rfl) rfl).2
  have hBB := hB.trans (below_le hB2 hB.size)
  have hB3 := gb_below (putU_gb W2 (w.heap.size + 1) (uC t.last n t.bib t.fib 0 (.slice none 0 0))) hBB (Nat.le_succ _) hBB.size
  generalize putU W2 (w.heap.size + 1) (uC t.last n t.bib t.fib 0 (.slice none 0 0)) = W3 at *
  have HL : Hid ((loadVar 32 ⟨w.heap.size + 1, 0, none⟩).run Try.prog W3 = .ok (.agg (uC t.last n t.bib t.fib 0 (.slice none 0 0))) W3) := hld
  have HB3 : Hid (Below w.heap.size w W3) := hB3
  clear hh hu hh2 hu2 hB hB2 hBB hB3 hld h0 h1 h2 h3
  unfold uC at hst1
  go_enter Try.func46, Try.ntmps46
  go_upto_region 1 with fail
  rw [← hW]
  clear hW
  go_wp2
  refine bodyPost_ret (v := .agg (uC t.last n t.bib t.fib 0 (.slice none 0 0))) (by simp [results, Try.results46, asAddr, HL.out]) rfl ?_
  exact ⟨rfl, HB3.out⟩

set_option maxRecDepth 100000 in
set_option maxHeartbeats 1000000 in
theorem rfill_any (L : Value) (a f m o : Int) (t : Tail) (w : World) (h0 : 0 ≤ t.last) (h1 : t.last < 256) (h2 : 0 ≤ f) (h3 : f < 128) (h4 : 0 ≤ a) (h5 : a ≤ 1000) :
    Calls Try.prog 23 #[.agg (sideC L a f m o t)] w fun e w' => e = .returned (.agg (uC t.last ((f + a - 1) % 128) t.bib t.fib 0 (.slice none 0 0))) ∧ Below w.heap.size w w' := by
  obtain ⟨W, hW, hB, hh, hu⟩ := side_unit w L a f m o t
  have e1 : f + (a - 1) = f + a - 1 := by omega
  obtain ⟨nn, hnn⟩ : ∃ nn, nn = (f + a - 1) % 128 := ⟨_, rfl⟩
  have hnn2 : 0 ≤ nn ∧ nn < 256 := by omega
  have hnum := fun Y (hY : Below W.heap.size W Y) => rnumber_any L a f m o t (a - 1) Y h2 h3 (by omega) (by omega)
  have hhd := fun Y (hY : Below W.heap.size W Y) => rhead_any L a f m o t nn Y h0 h1 hnn2.1 hnn2.2
  rw [e1] at hnum
  rw [← hnn] at hnum ⊢
  obtain ⟨cs, hcs⟩ : ∃ cs, cs = sideC L a f m o t := ⟨_, rfl⟩
  have HS : Hid (∀ Y : World, Y.heap[w.heap.size]? = W.heap[w.heap.size]? → (ldS (.pointer (some ⟨w.heap.size, 0, none⟩))).run Try.prog Y = .ok (.agg cs) Y ∧ Y.cell? ⟨w.heap.size, 1, none⟩ = some (.int .i64 a)) := fun Y hY => by
    have := hY.trans hh
    exact ⟨by rw [hcs]; exact (ld_side this rfl).1, (side_cells this).1.2.1⟩
  rw [← hcs] at hnum hhd hW ⊢
  have HH : Hid (W.heap[w.heap.size + 1]? = some (.cells zeroU 32 (0, 0)) ∧ Below w.heap.size w W ∧ w.heap.size < W.heap.size) := ⟨hu, hB, heap_lt hh⟩
  have hY0 : W.drew.heap[w.heap.size]? = W.heap[w.heap.size]? := rfl
  have HN : Hid _ := hnum
  have HD : Hid _ := hhd
  have hBD : Below W.heap.size W W.drew := (Below.refl _ _).drew
  have k1 : IntKind.i64.wrap (a - 1) = a - 1 := by
    simp [IntKind.wrap, IntKind.bits, IntKind.signed]
    omega
  clear hh hu hB hnn e1 hcs hnum hhd
  go_enter Try.func23, Try.ntmps23
  go_upto_region 1 with fail
  rw [← hW]
  clear hW
  go_wp2_with fail
  go_region_held (fun Y => (ldS (.pointer (some ⟨w.heap.size, 0, none⟩))).run Try.prog Y = .ok (.agg cs) Y ∧ Y.cell? ⟨w.heap.size, 1, none⟩ = some (.int .i64 a)) ((refine HS.out _ ?_; assumption))
    (first
    | (go_at_call 46; have hB3 := hB3; refine (HD.out _ (by assumption)).mono ?_; rintro e w4 ⟨rfl, hB4'⟩; have hB4 := hB3.trans (below_le hB4' hB3.size); have hY4 := hB4.block _ HH.out.2.2; have hu4 := (hB4.block _ (heap_lt HH.out.1)).trans HH.out.1; obtain ⟨w5, hst, HLD, HB5, hG5⟩ := unit_back (ds := uC t.last nn t.bib t.fib 0 (.slice none 0 0)) hu4 rfl rfl (uC_one _ _ _ _ _ _ _ _) (HH.out.2.1.trans (below_le hB4 HH.out.2.1.size)) (Nat.le_succ _) (Nat.le_trans HH.out.2.1.size hB4.size); have hY5 := (hG5.block w.heap.size (Nat.lt_of_lt_of_le HH.out.2.2 hB4.size) (by simp)).trans hY4; have HB5' : Hid _ := HB5; clear hG5 hu4 HB5 hB4')
    | (go_at_call 47; refine (HN.out _ (by assumption)).mono ?_; rintro e w3 ⟨rfl, hB3'⟩; have hB3 := hBD.trans (below_le hB3' hBD.size); have hY3 := hB3.block _ HH.out.2.2; clear hB3'))
  go_wp2
  refine bodyPost_ret (v := .agg (uC t.last nn t.bib t.fib 0 (.slice none 0 0))) (by simp [results, Try.results23, asAddr, HLD.out]) rfl ?_
  exact ⟨rfl, HB5'.out⟩
end Go.Proofs.Ytmnhciildlmjcaa.Tape
