/- AlignMeets' pieces in memory. -/
import Derived.Test.YtmcjjminlbempaaMeet1
namespace Go.Proofs.Ytmcjjminlbempaa.Tape
open Go.ChangeShapes Go.WideShapes Go.ChangeAt Go.RowKit
set_option linter.unusedVariables false

/-- The blocks, in the order in which they are made. -/
structure Chain (w : World) (B cb ab c0 b0 c1 b1 lb : Nat) : Prop where
  h0 : w.heap.size ≤ cb
  h1 : cb < ab
  h2 : ab < c0
  h3 : c0 < b0
  h4 : b0 < c1
  h5 : c1 < b1
  h6 : b1 < lb
  h7 : lb < B

def two (t : TypeId) (u v : Value) : Obj := .cells [u, v].toArray t (0, 0)
def pt (b : Nat) : Value := .pointer (some ⟨b, 0, none⟩)

/-- All the law's pieces: two Aligns with their clocks, two rows of what was told. -/
structure MP (w w' : World) (B cb ab c0 b0 c1 b1 lb : Nat) (A0 A1 : Al) (L0 L1 : List Int) : Prop where
  low : Below w.heap.size w w'
  big : B ≤ w'.heap.size
  a0 : AlignAt w' b0 c0 A0
  a1 : AlignAt w' b1 c1 A1
  cc : w'.heap[cb]? = some (two 48 (pt c0) (pt c1))
  aa : w'.heap[ab]? = some (two 49 (pt b0) (pt b1))
  ll : ∃ v0 v1, w'.heap[lb]? = some (two 51 v0 v1) ∧ w'.ownsRow B 5 1 v0 L0.length (L0.map (Value.int .u8)) ∧ w'.ownsRow B 5 1 v1 L1.length (L1.map (Value.int .u8)) ∧ ∀ g, v0.ownBlock = some g → v1.ownBlock ≠ some g

theorem two_cell {w : World} {b : Nat} {t : TypeId} {u v : Value} (h : w.heap[b]? = some (two t u v)) : w.cell? ⟨b, 0, none⟩ = some u ∧ w.cell? ⟨b, 1, none⟩ = some v ∧ w.frozen? ⟨b, 0, none⟩ = false ∧ w.frozen? ⟨b, 1, none⟩ = false := by
  unfold two at h
  refine ⟨?_, ?_, Lib.frozen_of_heap h _, Lib.frozen_of_heap h _⟩ <;> rw [Lib.cell_of_heap h] <;> rfl

section
variable {w w' w2 : World} {B cb ab c0 b0 c1 b1 lb : Nat} {A0 A1 : Al} {L0 L1 : List Int}

theorem MP.fr0 {A : Al} (h : MP w w' B cb ab c0 b0 c1 b1 lb A0 A1 L0 L1) (C : Chain w B cb ab c0 b0 c1 b1 lb) (hf : Fr b0 c0 w' w2) (hA : AlignAt w2 b0 c0 A) : MP w w2 B cb ab c0 b0 c1 b1 lb A A1 L0 L1 := by
  obtain ⟨h0, h1, h2, h3, h4, h5, h6, h7⟩ := C
  have hs := h.low.size
  have hb := h.big
  obtain ⟨v0, v1, e, r0, r1, hne⟩ := h.ll
  refine ⟨h.low.trans (hf.below (by omega) (by omega) hs), Nat.le_trans hb hf.size, hA, h.a1.other hf ⟨by omega, by omega⟩ ⟨by omega, by omega⟩, (hf.block cb (by omega) (by omega) (by omega)).trans h.cc, (hf.block ab (by omega) (by omega) (by omega)).trans h.aa,
    v0, v1, (hf.block lb (by omega) (by omega) (by omega)).trans e, owns_off r0 fun g hg => ?_, owns_off r1 fun g hg => ?_, hne⟩
  · have := r0.lt g hg; exact hf.block g this.2 (by omega) (by omega)
  · have := r1.lt g hg; exact hf.block g this.2 (by omega) (by omega)

theorem MP.fr1 {A : Al} (h : MP w w' B cb ab c0 b0 c1 b1 lb A0 A1 L0 L1) (C : Chain w B cb ab c0 b0 c1 b1 lb) (hf : Fr b1 c1 w' w2) (hA : AlignAt w2 b1 c1 A) : MP w w2 B cb ab c0 b0 c1 b1 lb A0 A L0 L1 := by
  obtain ⟨h0, h1, h2, h3, h4, h5, h6, h7⟩ := C
  have hs := h.low.size
  have hb := h.big
  obtain ⟨v0, v1, e, r0, r1, hne⟩ := h.ll
  refine ⟨h.low.trans (hf.below (by omega) (by omega) hs), Nat.le_trans hb hf.size, h.a0.other hf ⟨by omega, by omega⟩ ⟨by omega, by omega⟩, hA, (hf.block cb (by omega) (by omega) (by omega)).trans h.cc, (hf.block ab (by omega) (by omega) (by omega)).trans h.aa,
    v0, v1, (hf.block lb (by omega) (by omega) (by omega)).trans e, owns_off r0 fun g hg => ?_, owns_off r1 fun g hg => ?_, hne⟩
  · have := r0.lt g hg; exact hf.block g this.2 (by omega) (by omega)
  · have := r1.lt g hg; exact hf.block g this.2 (by omega) (by omega)

theorem MP.same (h : MP w w' B cb ab c0 b0 c1 b1 lb A0 A1 L0 L1) (hb : Below w'.heap.size w' w2) : MP w w2 B cb ab c0 b0 c1 b1 lb A0 A1 L0 L1 := by
  obtain ⟨v0, v1, e, r0, r1, hne⟩ := h.ll
  exact ⟨h.low.trans (hb.mono h.low.size), Nat.le_trans h.big hb.size, h.a0.keep hb, h.a1.keep hb, (hb.block _ (heap_lt h.cc)).trans h.cc, (hb.block _ (heap_lt h.aa)).trans h.aa, v0, v1, (hb.block _ (heap_lt e)).trans e, owns_below r0 hb, owns_below r1 hb, hne⟩

/-- One more octet in the first row. -/
theorem MP.push0 {x : Int} {v0 v1 v : Value} {w3 : World} (h : MP w w' B cb ab c0 b0 c1 b1 lb A0 A1 L0 L1) (C : Chain w B cb ab c0 b0 c1 b1 lb) (e : w'.heap[lb]? = some (two 51 v0 v1)) (r1 : w'.ownsRow B 5 1 v1 L1.length (L1.map (Value.int .u8))) (hne : ∀ g, v0.ownBlock = some g → v1.ownBlock ≠ some g)
    (hb : Below w'.heap.size w' w2) (hr0 : ∀ g, v0.ownBlock = some g → B ≤ g) (hg : w2.grownBy w3 v0.ownBlock) (hv : ∃ g, v.ownBlock = some g ∧ (v0.ownBlock = some g ∨ g = w2.heap.size)) (hr : w3.ownsRow B 5 1 v (L0.length + 1) (L0.map (Value.int .u8) ++ [.int .u8 x])) :
    MP w (w3.setCell ⟨lb, 0, none⟩ v) B cb ab c0 b0 c1 b1 lb A0 A1 (L0 ++ [x]) L1 := by
  have h' := h.same hb
  obtain ⟨h0, h1, h2, h3, h4, h5, h6, h7⟩ := C
  have hs2 := h'.big
  have hfar : ∀ k, k < B → k ≠ lb → (w3.setCell ⟨lb, 0, none⟩ v).heap[k]? = w2.heap[k]? := fun k hk hl => (Below.heap_setCell _ _ _ _ hl).trans (hg.block k (by omega) (fun e => by have := hr0 k e.symm; omega))
  have hl3 : w3.heap[lb]? = some (two 51 v0 v1) := (hg.block lb (by omega) (fun e => by have := hr0 lb e.symm; omega)).trans ((hb.block lb (heap_lt e)).trans e)
  have r1' := owns_below r1 hb
  obtain ⟨g, hgv, hgo⟩ := hv
  refine ⟨h'.low.trans ⟨hg.os, hg.tape, hg.output, Nat.le_trans hg.size (by simp [World.setCell]), fun k hk => hfar k (by omega) (by omega)⟩, Nat.le_trans hs2 (Nat.le_trans hg.size (by simp [World.setCell])),
    h'.a0.at_ (hfar b0 (by omega) (by omega)) (hfar c0 (by omega) (by omega)), h'.a1.at_ (hfar b1 (by omega) (by omega)) (hfar c1 (by omega) (by omega)), (hfar cb (by omega) (by omega)).trans h'.cc, (hfar ab (by omega) (by omega)).trans h'.aa,
    v, v1, row_set hl3 0 v, ?_, owns_off r1' fun k hk => ?_, fun k hk hk1 => ?_⟩
  · rw [List.length_append, List.map_append]
    exact ownsRow_setCell_below hr (show lb < B from h7) v
  · have hk2 := r1'.lt k hk
    exact (Below.heap_setCell _ _ _ _ (show k ≠ lb by omega)).trans (hg.block k hk2.2 (fun e => hne k e.symm hk))
  · rw [hgv] at hk
    obtain rfl := Option.some.inj hk
    rcases hgo with e1 | e1
    · exact hne g e1 hk1
    · have := (r1'.lt g hk1).2; omega

/-- .. in the second one. -/
theorem MP.push1 {x : Int} {v0 v1 v : Value} {w3 : World} (h : MP w w' B cb ab c0 b0 c1 b1 lb A0 A1 L0 L1) (C : Chain w B cb ab c0 b0 c1 b1 lb) (e : w'.heap[lb]? = some (two 51 v0 v1)) (r0 : w'.ownsRow B 5 1 v0 L0.length (L0.map (Value.int .u8))) (hne : ∀ g, v0.ownBlock = some g → v1.ownBlock ≠ some g)
    (hb : Below w'.heap.size w' w2) (hr1 : ∀ g, v1.ownBlock = some g → B ≤ g) (hg : w2.grownBy w3 v1.ownBlock) (hv : ∃ g, v.ownBlock = some g ∧ (v1.ownBlock = some g ∨ g = w2.heap.size)) (hr : w3.ownsRow B 5 1 v (L1.length + 1) (L1.map (Value.int .u8) ++ [.int .u8 x])) :
    MP w (w3.setCell ⟨lb, 1, none⟩ v) B cb ab c0 b0 c1 b1 lb A0 A1 L0 (L1 ++ [x]) := by
  have h' := h.same hb
  obtain ⟨h0, h1, h2, h3, h4, h5, h6, h7⟩ := C
  have hs2 := h'.big
  have hfar : ∀ k, k < B → k ≠ lb → (w3.setCell ⟨lb, 1, none⟩ v).heap[k]? = w2.heap[k]? := fun k hk hl => (Below.heap_setCell _ _ _ _ hl).trans (hg.block k (by omega) (fun e => by have := hr1 k e.symm; omega))
  have hl3 : w3.heap[lb]? = some (two 51 v0 v1) := (hg.block lb (by omega) (fun e => by have := hr1 lb e.symm; omega)).trans ((hb.block lb (heap_lt e)).trans e)
  have r0' := owns_below r0 hb
  obtain ⟨g, hgv, hgo⟩ := hv
  refine ⟨h'.low.trans ⟨hg.os, hg.tape, hg.output, Nat.le_trans hg.size (by simp [World.setCell]), fun k hk => hfar k (by omega) (by omega)⟩, Nat.le_trans hs2 (Nat.le_trans hg.size (by simp [World.setCell])),
    h'.a0.at_ (hfar b0 (by omega) (by omega)) (hfar c0 (by omega) (by omega)), h'.a1.at_ (hfar b1 (by omega) (by omega)) (hfar c1 (by omega) (by omega)), (hfar cb (by omega) (by omega)).trans h'.cc, (hfar ab (by omega) (by omega)).trans h'.aa,
    v0, v, row_set hl3 1 v, owns_off r0' fun k hk => ?_, ?_, fun k hk hk1 => ?_⟩
  · have hk2 := r0'.lt k hk
    exact (Below.heap_setCell _ _ _ _ (show k ≠ lb by omega)).trans (hg.block k hk2.2 (fun e => hne k hk e.symm))
  · rw [List.length_append, List.map_append]
    exact ownsRow_setCell_below hr (show lb < B from h7) v
  · rw [hgv] at hk1
    obtain rfl := Option.some.inj hk1
    rcases hgo with e1 | e1
    · exact hne g hk e1
    · have := (r0'.lt g hk).2; omega
end

/-- What an owned row holds at a place. -/
theorem row_at {w : World} {B n : Nat} {v : Value} {us : List Value} (h : w.ownsRow B 5 1 v n us) (u : Nat) (x : Value) (hu : us[u]? = some x) : ∃ g cap, v = .slice (some ⟨g, 0, none⟩) n cap ∧ w.cell? ⟨g, u, none⟩ = some x := by
  obtain ⟨ao, cap, rfl, -, hr, hf⟩ := owns_form h
  obtain ⟨g, off, rfl, hc⟩ := hr u x hu
  rcases hf with ⟨e, -⟩ | ⟨g', e⟩
  · cases e
  · simp only [Option.some.injEq, Addr.mk.injEq, and_true] at e
    obtain ⟨rfl, rfl⟩ := e
    exact ⟨g, cap, rfl, by rw [Nat.zero_add] at hc; exact hc⟩

/-- What a side told ahead of round t. -/
def ln (o p : Bool) (d g i t : Nat) : List Int := (List.range t).map fun u => (sA o p d g i u).sends
theorem ln_next (o p : Bool) (d g i t : Nat) : ln o p d g i (t + 1) = ln o p d g i t ++ [(sA o p d g i t).sends] := by
  unfold ln
  rw [List.range_succ, List.map_append]
  rfl
theorem ln_len (o p : Bool) (d g i t : Nat) : (ln o p d g i t).length = t := by simp [ln]
theorem ln_at (o p : Bool) (d g i t u : Nat) (h : u < t) : ((ln o p d g i t).map (Value.int .u8))[u]? = some (.int .u8 (sA o p d g i u).sends) := by
  unfold ln
  rw [List.getElem?_map, List.getElem?_map, List.getElem?_range h]
  rfl
end Go.Proofs.Ytmcjjminlbempaa.Tape
