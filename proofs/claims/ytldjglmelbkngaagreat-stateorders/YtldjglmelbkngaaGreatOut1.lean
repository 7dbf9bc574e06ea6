/- The contracts of outage's Local, Remote, Continue, Is; the outage laws' awake; an Outage that came in. -/
import Derived.Test.YtldjglmelbkngaaGreatBase
import Derived.OpenShut
namespace Go.Proofs.YtldjglmelbkngaaGreat.Tape
open Go.ChangeShapes Go.WideShapes Go.ChangeAt Go.RowKit
set_option linter.unusedVariables false

/-- An Outage in a block. -/
def OutAt (w : World) (p : Nat) (a b c : Bool) : Prop := w.heap[p]? = some (.cells #[.bool a, .bool b, .bool c] 41 (0, 0))
theorem OutAt.new (w : World) (a b c : Bool) : OutAt (w.alloc (.cells #[.bool a, .bool b, .bool c] 41)) w.heap.size a b c := heap_alloc_new w _
theorem OutAt.keep {w w' : World} {p : Nat} {a b c : Bool} (h : OutAt w p a b c) {B : Nat} (hb : Below B w w') (hp : p < B) : OutAt w' p a b c := (hb.block p hp).trans h
theorem out_keep {w w' : World} {p B : Nat} {a b c : Bool} (hb : Below B w w') (h : OutAt w p a b c) (hp : p < B) : OutAt w' p a b c := (hb.block p hp).trans h
theorem OutAt.lt {w : World} {p : Nat} {a b c : Bool} (h : OutAt w p a b c) : p < w.heap.size := heap_lt h
theorem OutAt.all {w : World} {p : Nat} {a b c : Bool} (h : OutAt w p a b c) : (w.cell? ⟨p, 0, none⟩ = some (.bool a) ∧ w.cell? ⟨p, 1, none⟩ = some (.bool b) ∧ w.cell? ⟨p, 2, none⟩ = some (.bool c)) ∧ ∀ k, w.frozen? ⟨p, k, none⟩ = false := by
  refine ⟨⟨?_, ?_, ?_⟩, Lib.frozen_of_heap h⟩ <;> rw [Lib.cell_of_heap h] <;> rfl
theorem OutAt.put {w : World} {p : Nat} {a b c : Bool} (h : OutAt w p a b c) (a' b' c' : Bool) : OutAt (((w.setCell ⟨p, 0, none⟩ (.bool a')).setCell ⟨p, 1, none⟩ (.bool b')).setCell ⟨p, 2, none⟩ (.bool c')) p a' b' c' :=
  row_set (cs := [.bool a', .bool b', .bool c]) (row_set (cs := [.bool a', .bool b, .bool c]) (row_set (cs := [.bool a, .bool b, .bool c]) h 0 _) 1 _) 2 _
theorem out_below {w w' : World} {B p : Nat} (h : Below B w w') (hp : B ≤ p) (u v x : Value) : Below B w (((w'.setCell ⟨p, 0, none⟩ u).setCell ⟨p, 1, none⟩ v).setCell ⟨p, 2, none⟩ x) := ((h.setCell hp _).setCell hp _).setCell hp _

set_option maxRecDepth 100000 in
theorem local_any (a b c o : Bool) (w : World) : Calls Tryz.prog 88 #[.agg #[.bool a, .bool b, .bool c], .bool o] w fun e w' => e = .returned (.agg #[.bool o, .bool b, .bool c]) ∧ Below w.heap.size w w' := by
  go_enter Tryz.func88, Tryz.ntmps88
  go_wp2
  refine bodyPost_ret (v := .agg #[.bool o, .bool b, .bool c]) (by simp [results, Tryz.results88, go_sem]) rfl ?_
  exact ⟨rfl, (((Below.refl _ _).alloc (Nat.le_refl _) _).alloc (by simp) _)⟩

set_option maxRecDepth 100000 in
theorem remote_any (a b c o : Bool) (w : World) : Calls Tryz.prog 103 #[.agg #[.bool a, .bool b, .bool c], .bool o] w fun e w' => e = .returned (.tuple #[.agg #[.bool a, .bool o, .bool (c || o)], .bool (b != o)]) ∧ Below w.heap.size w w' := by
  cases c
  · go_enter Tryz.func103, Tryz.ntmps103
    go_wp2
    refine bodyPost_ret (v := .tuple #[.agg #[.bool a, .bool o, .bool o], .bool (b != o)]) (by simp [results, Tryz.results103, go_sem]; cases b <;> cases o <;> rfl) rfl ?_
    exact ⟨rfl, (((Below.refl _ _).alloc (Nat.le_refl _) _).alloc (by simp) _)⟩
  · go_enter Tryz.func103, Tryz.ntmps103
    go_wp2
    refine bodyPost_ret (v := .tuple #[.agg #[.bool a, .bool o, .bool true], .bool (b != o)]) (by simp [results, Tryz.results103, go_sem]; cases b <;> cases o <;> rfl) rfl ?_
    exact ⟨rfl, (((Below.refl _ _).alloc (Nat.le_refl _) _).alloc (by simp) _)⟩

/-- Does level 3 go on? -/
def goes (a b : Bool) : Bool := !a && !b

set_option maxRecDepth 100000 in
theorem cont_any (a b c : Bool) (w : World) : Calls Tryz.prog 91 #[.agg #[.bool a, .bool b, .bool c]] w fun e w' => e = .returned (.tuple #[.agg #[.bool a, .bool b, .bool (c && !goes a b)], .bool (goes a b)]) ∧ Below w.heap.size w w' := by
  cases a
  · cases b
    · go_enter Tryz.func91, Tryz.ntmps91
      go_wp2
      refine bodyPost_ret (v := .tuple #[.agg #[.bool false, .bool false, .bool false], .bool true]) (by simp [results, Tryz.results91, go_sem]) rfl ?_
      exact ⟨by cases c <;> rfl, (((Below.refl _ _).alloc (Nat.le_refl _) _).alloc (by simp) _)⟩
    · go_enter Tryz.func91, Tryz.ntmps91
      go_wp2
      refine bodyPost_ret (v := .tuple #[.agg #[.bool false, .bool true, .bool c], .bool false]) (by simp [results, Tryz.results91, go_sem]) rfl ?_
      exact ⟨by cases c <;> rfl, (((Below.refl _ _).alloc (Nat.le_refl _) _).alloc (by simp) _)⟩
  · go_enter Tryz.func91, Tryz.ntmps91
    go_wp2
    refine bodyPost_ret (v := .tuple #[.agg #[.bool true, .bool b, .bool c], .bool false]) (by simp [results, Tryz.results91, go_sem]) rfl ?_
    exact ⟨by cases b <;> cases c <;> rfl, (((Below.refl _ _).alloc (Nat.le_refl _) _).alloc (by simp) _)⟩

set_option maxRecDepth 100000 in
theorem is_any (a b c : Bool) (w : World) : Calls Tryz.prog 105 #[.agg #[.bool a, .bool b, .bool c]] w fun e w' => e = .returned (.bool (a || (b || c))) ∧ Below w.heap.size w w' := by
  cases a
  · cases b
    · go_enter Tryz.func105, Tryz.ntmps105
      go_wp2
      go_ret
      exact ⟨rfl, ((Below.refl _ _).alloc (Nat.le_refl _) _)⟩
    · go_enter Tryz.func105, Tryz.ntmps105
      go_wp2
      go_ret
      exact ⟨rfl, ((Below.refl _ _).alloc (Nat.le_refl _) _)⟩
  · go_enter Tryz.func105, Tryz.ntmps105
    go_wp2
    go_ret
    exact ⟨rfl, ((Below.refl _ _).alloc (Nat.le_refl _) _)⟩

/-- What the walk is told of an Outage that came in. -/
def IsOutage (_w : World) (v : Value) : Prop := ∃ a b c : Bool, v = .agg #[.bool a, .bool b, .bool c]

theorem out_array3 {α : Type} {cs : Array α} (h : cs.size = 3) : ∃ c0 c1 c2, cs = #[c0, c1, c2] := by
  obtain ⟨l⟩ := cs
  match l, h with
  | [c0, c1, c2], _ => exact ⟨c0, c1, c2, rfl⟩
theorem out_cells : Tryz.prog.cellsOf 41 = 3 := by kernel_rfl
theorem out_cells4 : Tryz.prog.cellsOf 4 = 1 := by kernel_rfl

set_option maxRecDepth 100000 in
theorem outage_open {H : Type} {enc : TypeId × Value → H} {W : World} {r : Reach} {b0 : Nat} {v : Value} {d : DataW H} {ps : List MemPlace} (hv : Value.okWide Tryz.prog W r b0 41 v)
    (h : DataW.Trod enc Tryz.prog W 0 (fun _ => true) true 41 v d ps) : IsOutage W v := by
  obtain ⟨cs, rfl, hsz⟩ := okWide_struct Tryz.underlying41 hv
  obtain ⟨c0, c1, c2, rfl⟩ := out_array3 (hsz.trans out_cells)
  obtain ⟨fuel, hf⟩ := h
  obtain ⟨xs, n, -, -, -, hlen, hfs⟩ := DataW.trod_struct Tryz.underlying41 hf
  match xs, hlen with
  | [y0, y1, y2], _ =>
    have t0 := hfs 0 _ rfl
    have t1 := hfs 1 _ rfl
    have t2 := hfs 2 _ rfl
    simp [Value.cells, out_cells4] at t0 t1 t2
    obtain ⟨a, e0, -⟩ := DataW.trod_bool Tryz.underlying4 t0
    obtain ⟨b, e1, -⟩ := DataW.trod_bool Tryz.underlying4 t1
    obtain ⟨c, e2, -⟩ := DataW.trod_bool Tryz.underlying4 t2
    simp only [List.cons.injEq, and_true] at e0 e1 e2
    subst e0 e1 e2
    exact ⟨a, b, c, rfl⟩
end Go.Proofs.YtldjglmelbkngaaGreat.Tape
