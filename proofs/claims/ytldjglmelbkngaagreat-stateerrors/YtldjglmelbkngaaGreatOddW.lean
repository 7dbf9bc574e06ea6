/- A slice of bools that came in, opened; BasicOdd's walk. -/
import Derived.Test.YtldjglmelbkngaaGreatBasic7
import Derived.Deep.Grids
namespace Go.Proofs.YtldjglmelbkngaaGreat.Tape
open Go.ChangeShapes Go.WideShapes Go.ChangeAt Go.RowKit Go.Deep
set_option linter.unusedVariables false

/-- What a law is told of a slice of bools that came in. -/
def Bools (w : World) (a : Option Addr) (len : Nat) : Prop := ∃ bs : List Bool, bs.length = len ∧ len ≤ maxLen ∧ Reads w a (bs.map .bool)

theorem cells4 : Tryz.prog.cellsOf 4 = 1 := by kernel_rfl

theorem bools_open {H : Type} {enc : TypeId × Value → H} {W : World} {fuel : Nat} {a : Option Addr} {len cap : Nat} {x : DataW H × List MemPlace}
    (h : DataW.trod enc Tryz.prog W 0 (fun _ => true) true fuel 56 [.slice a len cap] = some x) : Bools W a len := by
  rcases open_bools Tryz.underlying56 Tryz.underlying4 cells4 h with ⟨hcs, _⟩ | ⟨b, l, c, B, hcs, _, hl, hm, -, hall⟩
  · simp only [List.cons.injEq, Value.slice.injEq, and_true] at hcs
    obtain ⟨rfl, rfl, rfl⟩ := hcs
    exact ⟨[], rfl, Nat.zero_le _, Reads.nil _ _⟩
  · simp only [List.cons.injEq, Value.slice.injEq, and_true] at hcs
    obtain ⟨rfl, rfl, rfl⟩ := hcs
    refine ⟨(List.range len).map B, by simp, Nat.le_trans hl hm, fun k v hk => ?_⟩
    have hlt : k < len := by
      have := (List.getElem?_eq_some_iff.1 hk).1
      simpa using this
    have hc := hall k (by omega)
    obtain ⟨bb, off, spot⟩ := b
    have hspot : spot = none := by
      have := hall 0 (by omega)
      simpa [Addr.add] using World.cell?_spot this
    subst hspot
    rw [Addr.add_lit] at hc
    refine ⟨bb, off, rfl, ?_⟩
    rw [hc]
    simp [hlt] at hk
    rw [← hk]

/-- The two ahead. -/
def prev (bs : List Bool) (j k : Nat) : Bool := if j ≤ k then bs.getD (k - j) false else false

end Go.Proofs.YtldjglmelbkngaaGreat.Tape
