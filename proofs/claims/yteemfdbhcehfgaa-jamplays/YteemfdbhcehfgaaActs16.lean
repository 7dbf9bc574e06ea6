/- A slice of acts that came in, opened. -/
import Derived.Test.YteemfdbhcehfgaaClock3
import Derived.Deep.Slices
namespace Go.Proofs.Yteemfdbhcehfgaa.Tape
open Go.ChangeShapes Go.WideShapes Go.ChangeAt Go.RowKit Go.Deep

/-- What a law is told of a slice of acts that came in. -/
def Acts (w : World) (a : Option Addr) (len : Nat) : Prop :=
  ∀ i, i < len → ∃ g off, a = some ⟨g, off, none⟩ ∧ ∃ k x : Int, w.cell? ⟨g, off + i * 2, none⟩ = some (.int .u8 k) ∧ w.cell? ⟨g, off + i * 2 + 1, none⟩ = some (.int .u8 x) ∧ (0 ≤ k ∧ k ≤ 255) ∧ 0 ≤ x ∧ x ≤ 255

theorem Acts.below {w w' : World} {a : Option Addr} {len : Nat} (h : Acts w a len) (hb : Below w.heap.size w w') : Acts w' a len := fun i hi => by
  obtain ⟨g, off, e, k, x, c0, c1, hk⟩ := h i hi
  exact ⟨g, off, e, k, x, (hb.cell (World.block_lt_of_cell? w _ c0)).trans c0, (hb.cell (World.block_lt_of_cell? w _ c1)).trans c1, hk⟩

theorem cells30 : Try.prog.cellsOf 43 = 2 := by kernel_rfl
theorem cells5 : Try.prog.cellsOf 5 = 1 := by kernel_rfl

theorem acts_open {H : Type} {enc : TypeId × Value → H} {W : World} {fuel : Nat} {a : Option Addr} {len cap : Nat} {x : DataW H × List MemPlace}
    (h : DataW.trod enc Try.prog W 0 (fun _ => true) true fuel 32 [.slice a len cap] = some x) : len ≤ maxLen ∧ Acts W a len := by
  rcases open_slice Try.underlying32 h with ⟨hcs, _⟩ | ⟨b, l, c, m, n, D, Pl, hcs, _, hl, hm, hmm, _, hall⟩
  · simp only [List.cons.injEq, Value.slice.injEq, and_true] at hcs
    obtain ⟨rfl, rfl, rfl⟩ := hcs
    exact ⟨Nat.zero_le _, fun i hi => by omega⟩
  · simp only [List.cons.injEq, Value.slice.injEq, and_true] at hcs
    obtain ⟨rfl, rfl, rfl⟩ := hcs
    refine ⟨Nat.le_trans hl hm, fun i hi => ?_⟩
    simp only [if_true] at hmm
    obtain ⟨cs', h1, h2⟩ := hall i (by omega)
    rw [cells30] at h1
    obtain ⟨_, hlen, hcell⟩ := World.cells?_some h1
    obtain ⟨xs, k, -, -, -, hxl, hf⟩ := DataW.trod_struct Try.underlying43 h2
    match xs, hxl, cs', hlen with
    | [y0, y1], _, [v0, v1], _ =>
      have g0 := hf 0 _ rfl
      have g1 := hf 1 _ rfl
      simp [cells5] at g0 g1
      have e0 := hcell 0 (by omega)
      have e1 := hcell 1 (by omega)
      rw [add_add] at e0 e1
      obtain ⟨kk, r0, -, wk⟩ := DataW.trod_int Try.underlying5 g0
      obtain ⟨xx, r1, -, wx⟩ := DataW.trod_int Try.underlying5 g1
      simp only [List.cons.injEq, and_true] at r0 r1
      subst r0 r1
      obtain ⟨bb, off, spot⟩ := b
      have hspot : spot = none := by
        obtain ⟨cs0, h10, _⟩ := hall 0 (by omega)
        rw [cells30] at h10
        obtain ⟨_, hlen0, hcell0⟩ := World.cells?_some h10
        have e00 := hcell0 0 (by omega)
        rw [add_add, List.getElem?_eq_getElem (show 0 < cs0.length by omega)] at e00
        simpa [Addr.add] using World.cell?_spot e00
      subst hspot
      rw [Addr.add_lit] at e0 e1
      have B := bounds_u8 wk
      have C := bounds_u8 wx
      exact ⟨bb, off, rfl, kk, xx, by simpa using e0, by simpa [Nat.add_assoc] using e1, B, C⟩
end Go.Proofs.Yteemfdbhcehfgaa.Tape
