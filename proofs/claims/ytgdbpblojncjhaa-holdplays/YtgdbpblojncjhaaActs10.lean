/- A slice of acts on a hold that came in, opened. -/
import Derived.Test.YtgdbpblojncjhaaBase
import Derived.Deep.Slices
import Derived.Lib.SmallJoins
namespace Go.Proofs.Ytgdbpblojncjhaa.Tape
open Go.ChangeShapes Go.WideShapes Go.ChangeAt Go.RowKit Go.Deep
set_option linter.unusedVariables false

/-- What a law is told of a slice of acts that came in. -/
def Acts (w : World) (a : Option Addr) (len : Nat) : Prop :=
  ∀ i, i < len → ∃ g off, a = some ⟨g, off, none⟩ ∧ ∃ (k x : Int) (ao : Option Addr) (n cap : Nat) (xs : List Int), w.cell? ⟨g, off + i * 3, none⟩ = some (.int .u8 k) ∧ w.cell? ⟨g, off + i * 3 + 1, none⟩ = some (.int .u8 x) ∧ w.cell? ⟨g, off + i * 3 + 2, none⟩ = some (.slice ao n cap) ∧
    (0 ≤ k ∧ k ≤ 255) ∧ (0 ≤ x ∧ x ≤ 255) ∧ xs.length = n ∧ n ≤ maxLen ∧ Reads w ao (xs.map (.int .u8)) ∧ ∀ y ∈ xs, 0 ≤ y ∧ y ≤ 255

theorem Acts.below {w w' : World} {a : Option Addr} {len : Nat} (h : Acts w a len) (hb : Below w.heap.size w w') : Acts w' a len := fun i hi => by
  obtain ⟨g, off, e, k, x, ao, n, cap, xs, c0, c1, c2, h1, h2, h3, h4, h5, h6⟩ := h i hi
  exact ⟨g, off, e, k, x, ao, n, cap, xs, (hb.cell (World.block_lt_of_cell? w _ c0)).trans c0, (hb.cell (World.block_lt_of_cell? w _ c1)).trans c1, (hb.cell (World.block_lt_of_cell? w _ c2)).trans c2, h1, h2, h3, h4, h5.below (Nat.le_refl _) hb, h6⟩

theorem cells33 : Try.prog.cellsOf 33 = 3 := by kernel_rfl
theorem cells5 : Try.prog.cellsOf 5 = 1 := by kernel_rfl
theorem cells31 : Try.prog.cellsOf 31 = 1 := by kernel_rfl

theorem acts_open {H : Type} {enc : TypeId × Value → H} {W : World} {fuel : Nat} {a : Option Addr} {len cap : Nat} {x : DataW H × List MemPlace}
    (h : DataW.trod enc Try.prog W 0 (fun _ => true) true fuel 23 [.slice a len cap] = some x) : len ≤ maxLen ∧ Acts W a len := by
  rcases open_slice Try.underlying23 h with ⟨hcs, _⟩ | ⟨b, l, c, m, n, D, Pl, hcs, _, hl, hm, hmm, _, hall⟩
  · simp only [List.cons.injEq, Value.slice.injEq, and_true] at hcs
    obtain ⟨rfl, rfl, rfl⟩ := hcs
    exact ⟨Nat.zero_le _, fun i hi => by omega⟩
  · simp only [List.cons.injEq, Value.slice.injEq, and_true] at hcs
    obtain ⟨rfl, rfl, rfl⟩ := hcs
    refine ⟨Nat.le_trans hl hm, fun i hi => ?_⟩
    simp only [if_true] at hmm
    obtain ⟨cs', h1, h2⟩ := hall i (by omega)
    rw [cells33] at h1
    obtain ⟨_, hlen, hcell⟩ := World.cells?_some h1
    obtain ⟨xs, k, -, -, -, hxl, hf⟩ := DataW.trod_struct Try.underlying33 h2
    match xs, hxl, cs', hlen with
    | [y0, y1, y2], _, [v0, v1, v2], _ =>
      have g0 := hf 0 _ rfl
      have g1 := hf 1 _ rfl
      have g2 := hf 2 _ rfl
      simp [cells5, cells31] at g0 g1 g2
      have e0 := hcell 0 (by omega)
      have e1 := hcell 1 (by omega)
      have e2 := hcell 2 (by omega)
      rw [add_add] at e0 e1 e2
      obtain ⟨kk, r0, -, wk⟩ := DataW.trod_int Try.underlying5 g0
      obtain ⟨xx, r1, -, wx⟩ := DataW.trod_int Try.underlying5 g1
      simp only [List.cons.injEq, and_true] at r0 r1
      subst r0 r1
      obtain ⟨bb, off, spot⟩ := b
      have hspot : spot = none := by
        obtain ⟨cs0, h10, _⟩ := hall 0 (by omega)
        rw [cells33] at h10
        obtain ⟨_, hlen0, hcell0⟩ := World.cells?_some h10
        have e00 := hcell0 0 (by omega)
        rw [add_add, List.getElem?_eq_getElem (show 0 < cs0.length by omega)] at e00
        simpa [Addr.add] using World.cell?_spot e00
      subst hspot
      rw [Addr.add_lit] at e0 e1 e2
      have B0 := bounds_u8 wk
      have B1 := bounds_u8 wx
      rcases open_ints Try.underlying31 Try.underlying5 (by kernel_rfl) g2 with ⟨hcs, _⟩ | ⟨x, l, c, zs, hcs, _, hl, hm, hz, _, hcl, hwz⟩
      · simp at hcs
        subst hcs
        exact ⟨bb, off, rfl, kk, xx, none, 0, 0, [], by simpa using e0, by simpa [Nat.add_assoc] using e1, by simpa [Nat.add_assoc] using e2, B0, B1, rfl, Nat.zero_le _, Reads.nil _ _, by simp⟩
      · simp at hcs
        subst hcs
        simp at hz
        exact ⟨bb, off, rfl, kk, xx, some x, l, c, zs.take l, by simpa using e0, by simpa [Nat.add_assoc] using e1, by simpa [Nat.add_assoc] using e2, B0, B1, by simp; omega, Nat.le_trans hl hm, Reads.of_bytes hcl (by omega), fun y hy => bounds_u8 (hwz y (List.mem_of_mem_take hy))⟩
end Go.Proofs.Ytgdbpblojncjhaa.Tape
