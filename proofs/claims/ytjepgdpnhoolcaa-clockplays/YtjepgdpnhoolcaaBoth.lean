/- The clock, and the law's own row beside it: what holds of them over the steps of ClockPlays; no walk. -/
import Derived.Test.YtjepgdpnhoolcaaActs
import Derived.Test.YtjepgdpnhoolcaaClockNilW
namespace Go.Proofs.Ytjepgdpnhoolcaa.Tape
open Go.ChangeShapes Go.WideShapes Go.ChangeAt Go.RowKit

/-- The law's own row. -/
def Row (w : World) (b g : Nat) (ys : List Int) : Prop := w.ownsRow (b + 1) 3 1 (.slice (some ⟨g, 0, none⟩) 8 8) 8 (ys.map (.int .i64))

theorem Row.len {w : World} {b g : Nat} {ys : List Int} (h : Row w b g ys) : ys.length = 8 := by
  have := h.1
  simpa using this
theorem Row.far {w : World} {b g : Nat} {ys : List Int} (h : Row w b g ys) : b < g ∧ g < w.heap.size := by
  have := World.ownsRow.lt h g rfl
  omega
theorem Row.cell {w : World} {b g : Nat} {ys : List Int} (h : Row w b g ys) (k : Nat) (hk : k < 8) : w.cell? ⟨g, k, none⟩ = some (.int .i64 (ys.getD k 0)) ∧ w.frozen? ⟨g, k, none⟩ = false := by
  have hl := h.len
  obtain ⟨hc, hf, -⟩ := owns_cell h k (by simpa [hl] using hk)
  rw [List.getElem_map] at hc
  refine ⟨?_, hf⟩
  rw [hc]
  simp [List.getD, show k < ys.length by omega]
theorem Row.set {w : World} {b g : Nat} {ys : List Int} (h : Row w b g ys) (k : Nat) (x : Int) : Row (w.setCell ⟨g, k, none⟩ (.int .i64 x)) b g (ys.set k x) := by
  unfold Row
  rw [List.map_set]
  exact owns_set h k _
theorem Row.of {w w' : World} {b g : Nat} {ys : List Int} (h : Row w b g ys) (hk : w'.heap[g]? = w.heap[g]?) : Row w' b g ys := owns_off h (fun g' hg' => by
  simp only [Value.ownBlock, Option.some.injEq] at hg'
  subst hg'
  exact hk)
theorem Row.keep {w w' : World} {b g : Nat} {ys : List Int} (h : Row w b g ys) (hb : Below w.heap.size w w') : Row w' b g ys := h.of (hb.block g h.far.2)
/-- The clock's own steps leave the row alone. -/
theorem Row.clock {w w' : World} {b g : Nat} {ys : List Int} (h : Row w b g ys) (hb : w.grownBy w' (some b)) : Row w' b g ys := h.of (hb.block g h.far.2 (fun e => by have := h.far.1; simp at e; omega))
theorem Row.off {w : World} {b g : Nat} {ys : List Int} (h : Row w b g ys) (k : Nat) (v : Value) : Row (w.setCell ⟨b, k, none⟩ v) b g ys := h.clock (gb_set v)
/-- The row's own steps leave the clock alone. -/
theorem ClockAt.row {w : World} {b g : Nat} {xs ys : List Int} (h : ClockAt w b xs) (hr : Row w b g ys) (k : Nat) (v : Value) : ClockAt (w.setCell ⟨g, k, none⟩ v) b xs := h.at_ (Below.heap_setCell _ _ _ _ (show b ≠ g by have := hr.far; omega))

/-- The clock and the row hold the same. -/
structure Both (w : World) (b g : Nat) (xs : List Int) : Prop where
  clock : ClockAt w b xs
  row : Row w b g xs
  few : ∀ x ∈ xs, x ≤ 11

theorem Both.keep {w w' : World} {b g : Nat} {xs : List Int} (h : Both w b g xs) (hb : Below w.heap.size w w') : Both w' b g xs := ⟨h.clock.keep hb, h.row.keep hb, h.few⟩

theorem few_set {xs : List Int} (h : ∀ x ∈ xs, x ≤ 11) (k : Nat) (x : Int) (hx : x ≤ 11) : ∀ y ∈ xs.set k x, y ≤ 11 := fun y hy => by
  rcases List.mem_or_eq_of_mem_set hy with hy | rfl
  · exact h y hy
  · exact hx
theorem few_stp {xs : List Int} (h : ∀ x ∈ xs, x ≤ 11) (j : Int) : ∀ y ∈ stp xs j, y ≤ 11 := by
  unfold stp
  split
  · exact few_set h _ 0 (by omega)
  · exact h
theorem few_stps {xs : List Int} (h : ∀ x ∈ xs, x ≤ 11) (js : List Int) : ∀ y ∈ js.foldl stp xs, y ≤ 11 := by
  induction js generalizing xs with
  | nil => exact h
  | cons j js ih => exact ih (few_stp h j)
theorem few_tk {xs : List Int} (h : ∀ x ∈ xs, x ≤ 11) : ∀ y ∈ xs.map tk, y ≤ 11 := fun y hy => by
  obtain ⟨x, hx, rfl⟩ := List.mem_map.1 hy
  have := h x hx
  unfold tk
  split <;> omega
theorem few_zero : ∀ x ∈ List.replicate 8 (0 : Int), x ≤ 11 := by simp

theorem Both.start {w : World} {b g : Nat} {xs : List Int} (h : Both w b g xs) (k : Nat) (x : Int) (h0 : 0 ≤ x) (h1 : x ≤ 11) : Both ((w.setCell ⟨b, k, none⟩ (.int .i64 x)).setCell ⟨g, k, none⟩ (.int .i64 x)) b g (xs.set k x) :=
  ⟨(h.clock.set k x (by omega)).row (h.row.off k _) k _, (h.row.off k _).set k x, few_set h.few k x h1⟩

theorem out_step {xs : List Int} {j c : Nat} (hj : j < xs.length) (h : (outs 0 xs).drop c = outs j (xs.drop j)) :
    (xs[j] = 1 → (outs 0 xs)[c]? = some j ∧ (outs 0 xs).drop (c + 1) = outs (j + 1) (xs.drop (j + 1))) ∧ (xs[j] ≠ 1 → (outs 0 xs).drop c = outs (j + 1) (xs.drop (j + 1))) := by
  rw [List.drop_eq_getElem_cons hj, outs] at h
  constructor
  · intro e
    rw [if_pos e] at h
    have h0 := congrArg (fun l => l[0]?) h
    have h1 := congrArg (fun l => l.drop 1) h
    simp only [List.getElem?_drop, Nat.add_zero, List.getElem?_cons_zero] at h0
    simp only [List.drop_drop, List.drop_succ_cons, List.drop_zero] at h1
    exact ⟨h0, h1⟩
  · intro e
    rw [if_neg e] at h
    exact h
end Go.Proofs.Ytjepgdpnhoolcaa.Tape
