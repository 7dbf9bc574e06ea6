/- A setup that came in, opened. -/
import Derived.Test.YtldjglmelbkngaaGreatBase
import Derived.OpenShut
namespace Go.Proofs.YtldjglmelbkngaaGreat.Tape
open Go.ChangeShapes Go.WideShapes Go.ChangeAt Go.RowKit

/-- What the walk is told of a setup that came in. -/
def IsSetup (_w : World) (v : Value) : Prop := ∃ (c : Bool) (a b h o t0 t1 t2 t3 t4 t5 t6 t7 : Int), v = .agg #[.bool c, .int .i64 a, .int .i64 b, .int .i64 h, .int .i64 o, .int .i64 t0, .int .i64 t1, .int .i64 t2, .int .i64 t3, .int .i64 t4, .int .i64 t5, .int .i64 t6, .int .i64 t7]

theorem set_array13 {α : Type} {cs : Array α} (h : cs.size = 13) : ∃ c0 c1 c2 c3 c4 c5 c6 c7 c8 c9 c10 c11 c12, cs = #[c0, c1, c2, c3, c4, c5, c6, c7, c8, c9, c10, c11, c12] := by
  obtain ⟨l⟩ := cs
  match l, h with
  | [c0, c1, c2, c3, c4, c5, c6, c7, c8, c9, c10, c11, c12], _ => exact ⟨c0, c1, c2, c3, c4, c5, c6, c7, c8, c9, c10, c11, c12, rfl⟩

theorem set_cells24 : Tryz.prog.cellsOf 28 = 13 := by kernel_rfl
theorem set_cells22 : Tryz.prog.cellsOf 26 = 8 := by kernel_rfl
theorem set_cells4 : Tryz.prog.cellsOf 4 = 1 := by kernel_rfl
theorem set_cells3 : Tryz.prog.cellsOf 3 = 1 := by kernel_rfl

set_option maxRecDepth 100000 in
theorem set_ints8 {H : Type} {enc : TypeId × Value → H} {W : World} {base : Nat} {spare : Nat → Bool} {held : Bool} {fuel : Nat} {c0 c1 c2 c3 c4 c5 c6 c7 : Value} {x : DataW H × List MemPlace}
    (h : DataW.trod enc Tryz.prog W base spare held fuel 26 [c0, c1, c2, c3, c4, c5, c6, c7] = some x) :
    ∃ t0 t1 t2 t3 t4 t5 t6 t7 : Int, c0 = .int .i64 t0 ∧ c1 = .int .i64 t1 ∧ c2 = .int .i64 t2 ∧ c3 = .int .i64 t3 ∧ c4 = .int .i64 t4 ∧ c5 = .int .i64 t5 ∧ c6 = .int .i64 t6 ∧ c7 = .int .i64 t7 := by
  obtain ⟨xs, m, -, -, -, hlen, hfs⟩ := DataW.trod_array Tryz.underlying26 h
  match xs, hlen with
  | [y0, y1, y2, y3, y4, y5, y6, y7], _ =>
    have t0 := hfs 0 (by omega)
    have t1 := hfs 1 (by omega)
    have t2 := hfs 2 (by omega)
    have t3 := hfs 3 (by omega)
    have t4 := hfs 4 (by omega)
    have t5 := hfs 5 (by omega)
    have t6 := hfs 6 (by omega)
    have t7 := hfs 7 (by omega)
    simp [set_cells3] at t0 t1 t2 t3 t4 t5 t6 t7
    obtain ⟨a0, e0, -⟩ := DataW.trod_int Tryz.underlying3 t0
    obtain ⟨a1, e1, -⟩ := DataW.trod_int Tryz.underlying3 t1
    obtain ⟨a2, e2, -⟩ := DataW.trod_int Tryz.underlying3 t2
    obtain ⟨a3, e3, -⟩ := DataW.trod_int Tryz.underlying3 t3
    obtain ⟨a4, e4, -⟩ := DataW.trod_int Tryz.underlying3 t4
    obtain ⟨a5, e5, -⟩ := DataW.trod_int Tryz.underlying3 t5
    obtain ⟨a6, e6, -⟩ := DataW.trod_int Tryz.underlying3 t6
    obtain ⟨a7, e7, -⟩ := DataW.trod_int Tryz.underlying3 t7
    simp only [List.cons.injEq, and_true] at e0 e1 e2 e3 e4 e5 e6 e7
    exact ⟨a0, a1, a2, a3, a4, a5, a6, a7, e0, e1, e2, e3, e4, e5, e6, e7⟩

set_option maxRecDepth 100000 in
theorem setup_open {H : Type} {enc : TypeId × Value → H} {W : World} {r : Reach} {b0 : Nat} {v : Value} {d : DataW H} {ps : List MemPlace} (hv : Value.okWide Tryz.prog W r b0 28 v)
    (h : DataW.Trod enc Tryz.prog W 0 (fun _ => true) true 28 v d ps) : IsSetup W v := by
  obtain ⟨cs, rfl, hsz⟩ := okWide_struct Tryz.underlying28 hv
  obtain ⟨c0, c1, c2, c3, c4, c5, c6, c7, c8, c9, c10, c11, c12, rfl⟩ := set_array13 (hsz.trans set_cells24)
  obtain ⟨fuel, hf⟩ := h
  obtain ⟨xs, n, -, -, -, hlen, hfs⟩ := DataW.trod_struct Tryz.underlying28 hf
  match xs, hlen with
  | [y0, y1, y2, y3, y4, y5], _ =>
    have t0 := hfs 0 _ rfl
    have t1 := hfs 1 _ rfl
    have t2 := hfs 2 _ rfl
    have t3 := hfs 3 _ rfl
    have t4 := hfs 4 _ rfl
    have t5 := hfs 5 _ rfl
    simp [Value.cells, set_cells22, set_cells4, set_cells3] at t0 t1 t2 t3 t4 t5
    obtain ⟨c, e0, -⟩ := DataW.trod_bool Tryz.underlying4 t0
    obtain ⟨a, e1, -⟩ := DataW.trod_int Tryz.underlying3 t1
    obtain ⟨b, e2, -⟩ := DataW.trod_int Tryz.underlying3 t2
    obtain ⟨h, e3, -⟩ := DataW.trod_int Tryz.underlying3 t3
    obtain ⟨o, e4, -⟩ := DataW.trod_int Tryz.underlying3 t4
    obtain ⟨z0, z1, z2, z3, z4, z5, z6, z7, f0, f1, f2, f3, f4, f5, f6, f7⟩ := set_ints8 t5
    simp only [List.cons.injEq, and_true] at e0 e1 e2 e3 e4
    subst e0 e1 e2 e3 e4 f0 f1 f2 f3 f4 f5 f6 f7
    exact ⟨c, a, b, h, o, z0, z1, z2, z3, z4, z5, z6, z7, rfl⟩

end Go.Proofs.YtldjglmelbkngaaGreat.Tape
