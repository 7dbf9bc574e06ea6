/- What laws on a State are told of arguments: a unit, an order. -/
import Derived.Test.YtldjglmelbkngaaGreatBase
import Derived.OpenShut
import Derived.Lib.SmallJoins
import Derived.Deep.Slices
namespace Go.Proofs.YtldjglmelbkngaaGreat.Tape
open Go.ChangeShapes Go.WideShapes Go.ChangeAt Go.RowKit Go.Deep
set_option linter.unusedVariables false

/-- What a law is told of a unit that came in. -/
def IsUnit (w : World) (v : Value) : Prop :=
  ∃ (b f : Int) (p q : Bool) (k s : Int) (wd : Bool) (ao : Option Addr) (n cap : Nat) (xs : List Int),
    v = .agg #[.int .u8 b, .int .u8 f, .bool p, .bool q, .int .u8 k, .int .u8 s, .bool wd, .slice ao n cap] ∧
    (0 ≤ b ∧ b ≤ 255) ∧ (0 ≤ f ∧ f ≤ 255) ∧ (0 ≤ k ∧ k ≤ 255) ∧ (0 ≤ s ∧ s ≤ 255) ∧ xs.length = n ∧ n ≤ cap ∧ cap ≤ maxLen ∧ (ao = none → cap = 0) ∧ Reads w ao (xs.map (.int .u8)) ∧ ∀ x ∈ xs, 0 ≤ x ∧ x ≤ 255

theorem arr8 {α : Type} {cs : Array α} (h : cs.size = 8) : ∃ c0 c1 c2 c3 c4 c5 c6 c7, cs = #[c0, c1, c2, c3, c4, c5, c6, c7] := by
  obtain ⟨l⟩ := cs
  match l, h with
  | [c0, c1, c2, c3, c4, c5, c6, c7], _ => exact ⟨c0, c1, c2, c3, c4, c5, c6, c7, rfl⟩

theorem ucells : Tryz.prog.cellsOf 32 = 8 := by kernel_rfl
theorem bcells : Tryz.prog.cellsOf 30 = 1 := by kernel_rfl
theorem ocells : Tryz.prog.cellsOf 5 = 1 := by kernel_rfl
theorem lcells : Tryz.prog.cellsOf 4 = 1 := by kernel_rfl

set_option maxRecDepth 100000 in
theorem unit_open {H : Type} {enc : TypeId × Value → H} {W : World} {r : Reach} {b0 : Nat} {v : Value} {d : DataW H} {ps : List MemPlace} (hv : Value.okWide Tryz.prog W r b0 32 v)
    (h : DataW.Trod enc Tryz.prog W 0 (fun _ => true) true 32 v d ps) : IsUnit W v := by
  obtain ⟨cs, rfl, hsz⟩ := okWide_struct Tryz.underlying32 hv
  obtain ⟨c0, c1, c2, c3, c4, c5, c6, c7, rfl⟩ := arr8 (hsz.trans ucells)
  obtain ⟨fuel, hf⟩ := h
  obtain ⟨xs, n, -, -, -, hlen, hfs⟩ := DataW.trod_struct Tryz.underlying32 hf
  match xs, hlen with
  | [y0, y1, y2, y3, y4, y5, y6, y7], _ =>
    have t0 := hfs 0 _ rfl
    have t1 := hfs 1 _ rfl
    have t2 := hfs 2 _ rfl
    have t3 := hfs 3 _ rfl
    have t4 := hfs 4 _ rfl
    have t5 := hfs 5 _ rfl
    have t6 := hfs 6 _ rfl
    have t7 := hfs 7 _ rfl
    simp [Value.cells, bcells, ocells, lcells] at t0 t1 t2 t3 t4 t5 t6 t7
    obtain ⟨b, e0, -, wb⟩ := DataW.trod_int Tryz.underlying5 t0
    obtain ⟨f, e1, -, wf⟩ := DataW.trod_int Tryz.underlying5 t1
    obtain ⟨p, e2, -⟩ := DataW.trod_bool Tryz.underlying4 t2
    obtain ⟨q, e3, -⟩ := DataW.trod_bool Tryz.underlying4 t3
    obtain ⟨k, e4, -, wk⟩ := DataW.trod_int Tryz.underlying5 t4
    obtain ⟨s, e5, -, ws⟩ := DataW.trod_int Tryz.underlying5 t5
    obtain ⟨wd, e6, -⟩ := DataW.trod_bool Tryz.underlying4 t6
    simp only [List.cons.injEq, and_true] at e0 e1 e2 e3 e4 e5 e6
    subst e0 e1 e2 e3 e4 e5 e6
    have B0 := bounds_u8 wb
    have B1 := bounds_u8 wf
    have B4 := bounds_u8 wk
    have B5 := bounds_u8 ws
    rcases open_ints Tryz.underlying30 Tryz.underlying5 (by kernel_rfl) t7 with ⟨hcs, _⟩ | ⟨x, l, c, zs, hcs, _, hl, hm, hz, _, hcell, hwz⟩
    · simp at hcs
      subst hcs
      exact ⟨b, f, p, q, k, s, wd, none, 0, 0, [], rfl, B0, B1, B4, B5, rfl, Nat.le_refl _, Nat.zero_le _, fun _ => rfl, Reads.nil _ _, by simp⟩
    · simp at hcs
      subst hcs
      simp at hz
      exact ⟨b, f, p, q, k, s, wd, some x, l, c, zs.take l, rfl, B0, B1, B4, B5, by simp; omega, hl, hm, (fun h => by cases h), Reads.of_bytes hcell (by omega), fun y hy => bounds_u8 (hwz y (List.mem_of_mem_take hy))⟩

/-- What a law is told of an order that came in. -/
def IsOrder (w : World) (v : Value) : Prop :=
  ∃ (o : Int) (ao : Option Addr) (n cap : Nat) (xs : List Int),
    v = .agg #[.int .u8 o, .slice ao n cap] ∧ (0 ≤ o ∧ o ≤ 255) ∧ xs.length = n ∧ n ≤ cap ∧ cap ≤ maxLen ∧ Reads w ao (xs.map (.int .u8)) ∧ ∀ x ∈ xs, 0 ≤ x ∧ x ≤ 255

theorem arr2 {α : Type} {cs : Array α} (h : cs.size = 2) : ∃ c0 c1, cs = #[c0, c1] := by
  obtain ⟨l⟩ := cs
  match l, h with
  | [c0, c1], _ => exact ⟨c0, c1, rfl⟩
theorem dcells : Tryz.prog.cellsOf 63 = 2 := by kernel_rfl

set_option maxRecDepth 100000 in
theorem order_open {H : Type} {enc : TypeId × Value → H} {W : World} {r : Reach} {b0 : Nat} {v : Value} {d : DataW H} {ps : List MemPlace} (hv : Value.okWide Tryz.prog W r b0 63 v)
    (h : DataW.Trod enc Tryz.prog W 0 (fun _ => true) true 63 v d ps) : IsOrder W v := by
  obtain ⟨cs, rfl, hsz⟩ := okWide_struct Tryz.underlying63 hv
  obtain ⟨c0, c1, rfl⟩ := arr2 (hsz.trans dcells)
  obtain ⟨fuel, hf⟩ := h
  obtain ⟨xs, n, -, -, -, hlen, hfs⟩ := DataW.trod_struct Tryz.underlying63 hf
  match xs, hlen with
  | [y0, y1], _ =>
    have t0 := hfs 0 _ rfl
    have t1 := hfs 1 _ rfl
    simp [Value.cells, bcells, ocells] at t0 t1
    obtain ⟨b, e0, -, wb⟩ := DataW.trod_int Tryz.underlying5 t0
    simp only [List.cons.injEq, and_true] at e0
    subst e0
    have B0 := bounds_u8 wb
    rcases open_ints Tryz.underlying30 Tryz.underlying5 (by kernel_rfl) t1 with ⟨hcs, _⟩ | ⟨x, l, c, zs, hcs, _, hl, hm, hz, _, hcell, hwz⟩
    · simp at hcs
      subst hcs
      exact ⟨b, none, 0, 0, [], rfl, B0, rfl, Nat.le_refl _, Nat.zero_le _, Reads.nil _ _, by simp⟩
    · simp at hcs
      subst hcs
      simp at hz
      exact ⟨b, some x, l, c, zs.take l, rfl, B0, by simp; omega, hl, hm, Reads.of_bytes hcell (by omega), fun y hy => bounds_u8 (hwz y (List.mem_of_mem_take hy))⟩
end Go.Proofs.YtldjglmelbkngaaGreat.Tape
