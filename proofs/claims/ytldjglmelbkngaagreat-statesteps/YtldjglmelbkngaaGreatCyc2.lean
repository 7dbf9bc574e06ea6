/- Units in memory; the contracts of a Cyclic's unit and Fill. -/
import Derived.Test.YtldjglmelbkngaaGreatCyc1
import Derived.Deep.Cut
import Derived.Deep.RegionHeld
namespace Go.Proofs.YtldjglmelbkngaaGreat.Tape
open Go.ChangeShapes Go.WideShapes Go.ChangeAt Go.RowKit
set_option linter.unusedVariables false

theorem range_u {w : World} {B : Nat} {cs : Array Value} {t : TypeId} (h : w.heap[B]? = some (.cells cs t (0, 0))) : w.rangeAt B 0 cs.toList := by
  have := World.rangeAt_of_block h 0 cs.size
  simpa using this

theorem heap_scu_other (w : World) (b : Nat) (vs : List Value) : ∀ o k, k ≠ b → (w.setCells b o vs).heap[k]? = w.heap[k]? := by
  induction vs generalizing w with
  | nil => intro o k _; rfl
  | cons v vs ih =>
    intro o k hk
    simp only [World.setCells]
    rw [ih _ _ _ hk, Below.heap_setCell _ _ _ _ hk]

theorem heap_scu_same (b : Nat) (t : TypeId) (vs : List Value) : ∀ (w : World) (pre cs post : List Value), w.heap[b]? = some (.cells (pre ++ cs ++ post).toArray t (0, 0)) → cs.length = vs.length → (w.setCells b pre.length vs).heap[b]? = some (.cells (pre ++ vs ++ post).toArray t (0, 0)) := by
  induction vs with
  | nil =>
    intro w pre cs post h hl
    obtain rfl : cs = [] := List.eq_nil_of_length_eq_zero (by simpa using hl)
    exact h
  | cons v vs ih =>
    intro w pre cs post h hl
    cases cs with
    | nil => simp at hl
    | cons c cs =>
      simp only [World.setCells]
      have h2 := row_set h pre.length v
      have e : (pre ++ c :: cs ++ post).set pre.length v = (pre ++ [v]) ++ cs ++ post := by simp
      rw [e] at h2
      have := ih _ (pre ++ [v]) cs post h2 (by simpa using hl)
      simpa using this

theorem scu_size (w : World) (b : Nat) (vs : List Value) : ∀ o, (w.setCells b o vs).heap.size = w.heap.size ∧ (w.setCells b o vs).os = w.os ∧ (w.setCells b o vs).tape = w.tape ∧ (w.setCells b o vs).output = w.output := by
  induction vs generalizing w with
  | nil => intro o; exact ⟨rfl, rfl, rfl, rfl⟩
  | cons v vs ih =>
    intro o
    simp only [World.setCells]
    obtain ⟨h1, h2, h3, h4⟩ := ih (w.setCell ⟨b, o, none⟩ v) (o + 1)
    exact ⟨h1.trans (by simp [World.setCell]), h2, h3, h4⟩

theorem CycIn.off {w w' : World} {p hb B r : Nat} {T0 : Nat → Prop} {t : Cs} {s : Hs} {cs : Array Value} (h : CycIn w p hb B T0 t s) (hg : w.grownBy w' (some r)) (hr : w.heap[r]? = some (.cells cs 32 (0, 0))) : CycIn w' p hb B T0 t s := by
  have hk : ∀ (k : Nat) cur ty, w.heap[k]? = some (.cells cur ty (0, 0)) → ty ≠ 32 → w'.heap[k]? = w.heap[k]? := fun k cur ty hk hty => hg.block k (heap_lt hk) (fun e => by
    simp only [Option.some.injEq] at e
    subst e
    rw [hr] at hk
    simp only [Option.some.injEq, Obj.cells.injEq] at hk
    exact hty hk.2.1.symm)
  refine ⟨(hk p _ _ h.cells (by decide)).trans h.cells, h.hold.stay (fun k hT => ?_) (fun k cur h5 => hk k _ _ h5 (by decide)), h.lowp, h.lowh, h.last, h.pl⟩
  obtain ⟨cur, ty, hh, ht⟩ := h.hold.kind k hT
  exact hk k _ _ hh (by rcases ht with rfl | rfl <;> decide)

attribute [local go_sem ↓] ldU_def stU_def

set_option maxRecDepth 100000 in
set_option maxHeartbeats 1000000 in
theorem cunit_any (p hb B : Nat) (T0 : Nat → Prop) (t : Cs) (s : Hs) (k f : Int) (ao : Option Addr) (n c : Nat) (w : World) (h : CycIn w p hb B T0 t s) :
    Calls Tryz.prog 139 #[.pointer (some ⟨p, 0, none⟩), .int .u8 k, .int .u8 f, .slice ao n c] w fun e w' => e = .returned (.agg (uC t.last f true true k (.slice ao n c))) ∧ Below w.heap.size w w' := by
  obtain ⟨W, hW, hB, hh⟩ := new_unit w
  obtain ⟨⟨-, -, -, c3, -⟩, -⟩ := cyc_cells (h.below hB).cells
  have hst := st_unit (ds := uC t.last f true true k (.slice ao n c)) hh rfl rfl (uC_one _ _ _ _ _ _ _ _)
  have hB2 := gb_below (putU_gb W w.heap.size (uC t.last f true true k (.slice ao n c))) hB (Nat.le_refl _) hB.size
  have hld := (ld_unit (putU_heap (ds := uC t.last f true true k (.slice ao n c)) hh rfl) rfl).2
  generalize putU W w.heap.size (uC t.last f true true k (.slice ao n c)) = W2 at *
  have HL : Hid ((loadVar 32 ⟨w.heap.size, 0, none⟩).run Tryz.prog W2 = .ok (.agg (uC t.last f true true k (.slice ao n c))) W2) := hld
  clear h hh hld hB
  unfold uC at hst
  go_enter Tryz.func139, Tryz.ntmps139
  go_upto_region 1 with fail
  rw [← hW]
  clear hW
  go_wp2
  refine bodyPost_ret (v := .agg (uC t.last f true true k (.slice ao n c))) (by simp [results, Tryz.results139, asAddr, HL.out]) rfl ?_
  exact ⟨rfl, hB2⟩

set_option maxRecDepth 100000 in
set_option maxHeartbeats 1000000 in
theorem cfill_any (p hb B : Nat) (T0 : Nat → Prop) (t : Cs) (s : Hs) (w : World) (h : CycIn w p hb B T0 t s) :
    Calls Tryz.prog 131 #[.pointer (some ⟨p, 0, none⟩)] w fun e w' => e = .returned (.agg (uC t.last s.last true true 0 (.slice none 0 0))) ∧ Below w.heap.size w w' := by
  obtain ⟨W, hW, hB, hh⟩ := new_unit w
  have h1 := h.below hB
  obtain ⟨⟨c0, -⟩, -⟩ := cyc_cells h1.cells
  have hla := last_any hb B T0 s _ h1.hold
  have hun := cunit_any p hb B T0 t s 0 s.last none 0 0 _ h1
  have hs := hB.size
  clear h h1
  go_enter Tryz.func131, Tryz.ntmps131
  go_upto_region 1 with fail
  rw [← hW]
  clear hW
  go_wp2_with (first | (go_at_call 140; refine hla.mono ?_; rintro e w1 ⟨rfl, hw1⟩; obtain rfl := hw1.symm; clear hw1) | (go_at_call 139; refine hun.mono ?_; rintro e w2 ⟨rfl, hB2⟩; have hh2 := (hB2.block _ (heap_lt hh)).trans hh; have hst := st_unit (ds := uC t.last s.last true true 0 (.slice none 0 0)) hh2 rfl rfl (uC_one _ _ _ _ _ _ _ _)))
  have hld := (ld_unit (putU_heap (ds := uC t.last s.last true true 0 (.slice none 0 0)) hh2 rfl) rfl).2
  refine bodyPost_ret (v := .agg (uC t.last s.last true true 0 (.slice none 0 0))) (by simp [results, Tryz.results131, asAddr, hld]) rfl ?_
  have hB3 := hB.trans (below_le hB2 hs)
  exact ⟨rfl, gb_below (putU_gb _ _ _) hB3 (Nat.le_refl _) hB3.size⟩
end Go.Proofs.YtldjglmelbkngaaGreat.Tape
