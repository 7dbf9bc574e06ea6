/- What a call of an object (its block b) with a clock (c) may touch; the usual timers; no walk. -/
import Derived.Test.YtldjglmelbkngaaGreatClock3
namespace Go.Proofs.YtldjglmelbkngaaGreat.Tape
open Go.ChangeShapes Go.WideShapes Go.ChangeAt Go.RowKit
set_option linter.unusedVariables false

/-- What a call of an object b with a clock c may touch. -/
structure Fr (b c : Nat) (w w' : World) : Prop where
  os : w'.os = w.os
  tape : w'.tape = w.tape
  output : w'.output = w.output
  size : w.heap.size ≤ w'.heap.size
  block : ∀ k, k < w.heap.size → k ≠ b → k ≠ c → w'.heap[k]? = w.heap[k]?

theorem Fr.refl (b c : Nat) (w : World) : Fr b c w w := ⟨rfl, rfl, rfl, Nat.le_refl _, fun _ _ _ _ => rfl⟩
theorem Fr.trans {b c : Nat} {w w1 w2 : World} (h : Fr b c w w1) (k : Fr b c w1 w2) : Fr b c w w2 := ⟨k.os.trans h.os, k.tape.trans h.tape, k.output.trans h.output, Nat.le_trans h.size k.size, fun i hi hb hc => (k.block i (Nat.lt_of_lt_of_le hi h.size) hb hc).trans (h.block i hi hb hc)⟩
theorem Fr.of_below {b c : Nat} {w w' : World} (h : Below w.heap.size w w') : Fr b c w w' := ⟨h.os, h.tape, h.output, h.size, fun k hk _ _ => h.block k hk⟩
theorem Fr.of_gb {b c : Nat} {w w' : World} {r : Nat} (h : w.grownBy w' (some r)) (hr : r = b ∨ r = c ∨ w.heap.size ≤ r) : Fr b c w w' := ⟨h.os, h.tape, h.output, h.size, fun k hk hb hc => h.block k hk (fun e => by simp only [Option.some.injEq] at e; omega)⟩
theorem Fr.below {b c B : Nat} {w w' : World} (h : Fr b c w w') (hb : B ≤ b) (hc : B ≤ c) (hB : B ≤ w.heap.size) : Below B w w' := ⟨h.os, h.tape, h.output, h.size, fun k hk => h.block k (by omega) (by omega) (by omega)⟩
theorem Fr.set {b c : Nat} {w w' : World} (h : Fr b c w w') (k : Nat) (v : Value) : Fr b c w (w'.setCell ⟨b, k, none⟩ v) := h.trans (Fr.of_gb (kgb_set v) (.inl rfl))
theorem Fr.drew {b c : Nat} {w w' : World} (h : Fr b c w w') : Fr b c w w'.drew := h.trans (Fr.of_below (Below.refl _ _).drew)

theorem Reads.fr {b c : Nat} {w w' : World} {ao : Option Addr} {vs : List Value} (h : Reads w ao vs) (hf : Fr b c w w') (ha : ∀ x, ao = some x → x.block < w.heap.size ∧ x.block ≠ b ∧ x.block ≠ c) : Reads w' ao vs := fun j u hj => by
  obtain ⟨g, off, e, hc⟩ := h j u hj
  obtain ⟨h1, h2, h3⟩ := ha _ e
  exact ⟨g, off, e, (World.cell?_of_block (a := ⟨g, off + j, none⟩) (hf.block g h1 h2 h3)).trans hc⟩

/-- The usual timers. -/
def uT (k : Nat) : Int := [600, 12000, 8000, 4000, 1200, 100, 4000, 6000].getD k 1
theorem uT_ok (k : Nat) : 1 ≤ uT k ∧ uT k ≤ 4294967296 := by
  have : k = 0 ∨ k = 1 ∨ k = 2 ∨ k = 3 ∨ k = 4 ∨ k = 5 ∨ k = 6 ∨ k = 7 ∨ 8 ≤ k := by omega
  rcases this with rfl | rfl | rfl | rfl | rfl | rfl | rfl | rfl | h
  · decide
  · decide
  · decide
  · decide
  · decide
  · decide
  · decide
  · decide
  · have : uT k = 1 := by unfold uT; rw [List.getD_eq_getElem?_getD, List.getElem?_eq_none (by simpa using h)]; rfl
    rw [this]; decide
end Go.Proofs.YtldjglmelbkngaaGreat.Tape
