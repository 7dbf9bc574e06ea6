/- A slice of slices of octets that came in, opened: plain facts. -/
import Derived.Test.YtfjfnfofbhikdaaStream1
import Derived.Deep.Matrix
namespace Go.Proofs.Ytfjfnfofbhikdaa.Tape
open Go.ChangeShapes Go.WideShapes Go.ChangeAt Go.RowKit Go.Deep

/-- What a law is told of a slice of slices of octets that came in. -/
theorem lots_open {H : Type} {enc : TypeId × Value → H} {W : World} {fuel : Nat} {a : Option Addr} {len cap : Nat} {x : DataW H × List MemPlace}
    (h : DataW.trod enc Try.prog W 0 (fun _ => true) true fuel 43 [.slice a len cap] = some x) : ∃ ls : List RV, len = ls.length ∧ len ≤ maxLen ∧ Lots W a ls := by
  rcases open_int_rows Try.underlying43 Try.underlying22 Try.underlying5 (by kernel_rfl) (by kernel_rfl) h with ⟨hcs, _⟩ | ⟨b, l, c, A, Ln, Cp, Z, hcs, _, hl, hm, _, hall⟩
  · simp only [List.cons.injEq, Value.slice.injEq, and_true] at hcs
    obtain ⟨rfl, rfl, rfl⟩ := hcs
    exact ⟨[], rfl, Nat.zero_le _, fun k r hr => by simp at hr⟩
  · simp only [List.cons.injEq, Value.slice.injEq, and_true] at hcs
    obtain ⟨rfl, rfl, rfl⟩ := hcs
    refine ⟨(List.range len).map fun r => ⟨A r, Ln r, Cp r, (Z r).take (Ln r)⟩, by simp, Nat.le_trans hl hm, fun k r hr => ?_⟩
    have hk : k < len := by
      have := (List.getElem?_eq_some_iff.1 hr).1
      simpa using this
    simp only [List.getElem?_map, List.getElem?_range hk, Option.map_some, Option.some.injEq] at hr
    subst hr
    obtain ⟨hc, h1, h2, h3, h4, h5, h6⟩ := hall k (by omega)
    obtain ⟨bb, off, spot⟩ := b
    have hspot : spot = none := by simpa [Addr.add] using World.cell?_spot (hall 0 (by omega)).1
    subst hspot
    rw [Addr.add_lit] at hc
    refine ⟨bb, off, rfl, hc, by simp; omega, h1, h2, ?_, h5, fun y hy => bounds_u8 (h4 y (List.mem_of_mem_take hy))⟩
    simp only
    cases hA : A k with
    | none =>
      have hC := h5 hA
      have hz : (Z k).take (Ln k) = [] := List.eq_nil_of_length_eq_zero (by simp; omega)
      rw [hz]
      exact Reads.nil _ _
    | some a' =>
      have := (h6 a' hA).2
      exact Reads.of_bytes (fun i hi => this i (by omega)) (by omega)
end Go.Proofs.Ytfjfnfofbhikdaa.Tape
