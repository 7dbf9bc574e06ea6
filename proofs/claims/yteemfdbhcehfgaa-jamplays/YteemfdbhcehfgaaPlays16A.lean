/- JamPlays in plain functions, its own row of timers in memory; no walk. -/
import Derived.Test.YteemfdbhcehfgaaJam2
import Derived.Test.YteemfdbhcehfgaaActs16
namespace Go.Proofs.Yteemfdbhcehfgaa.Tape
open Go.ChangeShapes Go.WideShapes Go.ChangeAt Go.RowKit
set_option linter.unusedVariables false

/-- The law's timers. -/
def tP (k : Nat) : Int := [1, 1, 1, 1, 1, 7, 30, 20].getD k 1
theorem tP_ok (k : Nat) : 1 ≤ tP k ∧ tP k ≤ 4294967296 := by
  have : k = 0 ∨ k = 1 ∨ k = 2 ∨ k = 3 ∨ k = 4 ∨ k = 5 ∨ k = 6 ∨ k = 7 ∨ 8 ≤ k := by omega
  rcases this with rfl | rfl | rfl | rfl | rfl | rfl | rfl | rfl | h
  · decide
  · decide
  · decide
  · decide
  · decide
  · decide
  · decide
  · decide
  · have : tP k = 1 := by unfold tP; rw [List.getD_eq_getElem?_getD, List.getElem?_eq_none (by simpa using h)]; rfl
    rw [this]; decide

/-- A Jam of the law's. -/
def JP (o t d : Bool) (xs : List Int) : Ja := ⟨o, t, d, tP, xs⟩
theorem jp_begin_t (t d : Bool) (xs : List Int) : (JP true t d xs).begin_ = JP true t d xs := rfl
theorem jp_begin_f (t d : Bool) (xs : List Int) : (JP false t d xs).begin_ = JP true t true (xs.set 5 7) := rfl
theorem jp_end (o t d : Bool) (xs : List Int) : (JP o t d xs).end_ = JP false t false (xs.set 5 0) := rfl
theorem jp_told (o t d : Bool) (xs : List Int) : (JP o t d xs).told = JP o t false xs := rfl
theorem jp_heard_tt (o d : Bool) (xs : List Int) : (JP o true d xs).heard true = JP o true d (xs.set 7 20) := rfl
theorem jp_heard_tf (o d : Bool) (xs : List Int) : (JP o true d xs).heard false = JP o true d xs := rfl
theorem jp_heard_ft (o d : Bool) (xs : List Int) : (JP o false d xs).heard true = JP o true d ((xs.set 7 20).set 6 30) := rfl
theorem jp_heard_ff (o d : Bool) (xs : List Int) : (JP o false d xs).heard false = JP o true d (xs.set 6 30) := rfl
theorem jp_answer_t (o d : Bool) (xs : List Int) : (JP o true d xs).answer = JP o false d (xs.set 6 0) := rfl
theorem jp_answer_f (o d : Bool) (xs : List Int) : (JP o false d xs).answer = JP o false d xs := rfl
theorem jp_clear (o t d : Bool) (xs : List Int) : (JP o t d xs).clear = JP false false false ((xs.set 5 0).set 6 0) := rfl
theorem jp_tick (o t d : Bool) (xs : List Int) : (JP o t d xs).tick = JP o t d (xs.map tk) := rfl

/-- The law's own row: an array of eight numbers in a block of its own. -/
structure LeftAt (w : World) (g : Nat) (ys : List Int) : Prop where
  cells : w.heap[g]? = some (.cells (ys.map (Value.int .i64)).toArray 33 (0, 0))
  len : ys.length = 8
theorem LeftAt.new (w : World) : LeftAt (w.alloc (.cells #[.int .i64 0, .int .i64 0, .int .i64 0, .int .i64 0, .int .i64 0, .int .i64 0, .int .i64 0, .int .i64 0] 33)) w.heap.size (List.replicate 8 0) := ⟨heap_alloc_new w _, rfl⟩
theorem LeftAt.lt {w : World} {g : Nat} {ys : List Int} (h : LeftAt w g ys) : g < w.heap.size := heap_lt h.cells
theorem LeftAt.at_ {w w' : World} {g : Nat} {ys : List Int} (h : LeftAt w g ys) (hg : w'.heap[g]? = w.heap[g]?) : LeftAt w' g ys := ⟨hg.trans h.cells, h.len⟩
theorem LeftAt.keep {w w' : World} {g : Nat} {ys : List Int} (h : LeftAt w g ys) (hb : Below w.heap.size w w') : LeftAt w' g ys := h.at_ (hb.block g h.lt)
theorem LeftAt.fr {w w' : World} {g b c : Nat} {ys : List Int} (h : LeftAt w g ys) (hf : Fr b c w w') (hg : g ≠ b ∧ g ≠ c) : LeftAt w' g ys := h.at_ (hf.block g h.lt hg.1 hg.2)
theorem LeftAt.cell {w : World} {g : Nat} {ys : List Int} (h : LeftAt w g ys) (k : Nat) (hk : k < 8) : w.cell? ⟨g, k, none⟩ = some (.int .i64 (ys.getD k 0)) ∧ w.frozen? ⟨g, k, none⟩ = false := by
  refine ⟨?_, Lib.frozen_of_heap h.cells k⟩
  rw [Lib.cell_of_heap h.cells]
  have := h.len
  simp [List.getD, show k < ys.length by omega]
theorem LeftAt.put {w : World} {g : Nat} {ys : List Int} (h : LeftAt w g ys) (k : Nat) (x : Int) : LeftAt (w.setCell ⟨g, k, none⟩ (.int .i64 x)) g (ys.set k x) :=
  ⟨by rw [List.map_set]; exact row_set h.cells k _, by rw [List.length_set]; exact h.len⟩
theorem JamAt.left {w : World} {b c g : Nat} {J : Ja} (h : JamAt w b c J) (hg : g ≠ b ∧ g ≠ c) (k : Nat) (v : Value) : JamAt (w.setCell ⟨g, k, none⟩ v) b c J :=
  h.at_ (Below.heap_setCell _ _ _ _ (Ne.symm hg.1)) (Below.heap_setCell _ _ _ _ (Ne.symm hg.2))

/-- A tick, k of the timers seen: what is left on the clock, whether a status is due. e: timer 5 runs out while this side is busy. -/
def fin (e : Bool) (xs : List Int) (k : Nat) : List Int := if e = true ∧ 5 < k then (xs.map tk).set 5 7 else xs.map tk
def duk (e d : Bool) (k : Nat) : Bool := d || (e && decide (5 < k))

theorem fin_zero (e : Bool) (xs : List Int) : fin e xs 0 = xs.map tk := if_neg (fun h => by omega)
theorem duk_zero (e d : Bool) : duk e d 0 = d := by unfold duk; simp
/-- Another one than timer 5, or one that doesn't run out, turns nothing more. -/
theorem fin_same (e : Bool) (xs : List Int) (k : Nat) (h : k ≠ 5 ∨ e = false) : fin e xs (k + 1) = fin e xs k := by
  unfold fin
  by_cases he : e = true
  · by_cases h5 : 5 < k
    · rw [if_pos ⟨he, by omega⟩, if_pos ⟨he, h5⟩]
    · have : ¬ 5 < k + 1 := by
        rcases h with h | h
        · omega
        · rw [he] at h; cases h
      rw [if_neg (fun h => this h.2), if_neg (fun h => h5 h.2)]
  · rw [if_neg (fun h => he h.1), if_neg (fun h => he h.1)]
theorem duk_same (e d : Bool) (k : Nat) (h : k ≠ 5 ∨ e = false) : duk e d (k + 1) = duk e d k := by
  unfold duk
  rcases h with h | rfl
  · rw [show decide (5 < k + 1) = decide (5 < k) by rw [decide_eq_decide]; omega]
  · simp
theorem fin_five (xs : List Int) : fin true xs 6 = (fin true xs 5).set 5 7 := by
  unfold fin
  rw [if_pos ⟨rfl, by omega⟩, if_neg (fun h => by omega)]
theorem duk_five (d : Bool) : duk true d 6 = true := by unfold duk; simp
theorem fin_get (e : Bool) (xs : List Int) (k : Nat) (h : k ≠ 5 ∨ e = false) (hk : k < 8) : (fin e xs (k + 1)).getD k 0 = tk (xs.getD k 0) := by
  unfold fin
  split
  · rcases h with h | h
    · rw [List.getD_eq_getElem?_getD, List.getElem?_set_ne (by omega), List.getElem?_map, List.getD_eq_getElem?_getD]
      cases xs[k]? <;> rfl
    · simp_all
  · rw [List.getD_eq_getElem?_getD, List.getElem?_map, List.getD_eq_getElem?_getD]
    cases xs[k]? <;> rfl
theorem fin_len (e : Bool) (xs : List Int) (k : Nat) : (fin e xs k).length = xs.length := by unfold fin; split <;> simp

/-- The law's own row, k of the timers seen. -/
def SeenK (e : Bool) (xs ys : List Int) (k : Nat) : Prop := ys.length = 8 ∧ (∀ j, j < k → ys.getD j 0 = (fin e xs k).getD j 0) ∧ ∀ j, k ≤ j → ys.getD j 0 = xs.getD j 0
theorem getD_set (ys : List Int) (k j : Nat) (v : Int) (hk : k < ys.length) : (ys.set k v).getD j 0 = if j = k then v else ys.getD j 0 := by
  split
  · rename_i h; subst h; simp [List.getD, hk]
  · rename_i h; rw [List.getD_eq_getElem?_getD, List.getElem?_set_ne (fun e => h e.symm), List.getD_eq_getElem?_getD]
theorem SeenK.zero (e : Bool) (xs : List Int) (h : xs.length = 8) : SeenK e xs xs 0 := ⟨h, fun j hj => by omega, fun j _ => rfl⟩
/-- One that isn't timer 5, or doesn't run out while this side is busy. -/
theorem SeenK.up {e : Bool} {xs ys : List Int} {k : Nat} (h : SeenK e xs ys k) (hk : k < 8) (h5 : k ≠ 5 ∨ e = false) : SeenK e xs (ys.set k (tk (xs.getD k 0))) (k + 1) := by
  obtain ⟨hl, h1, h2⟩ := h
  refine ⟨by rw [List.length_set]; exact hl, fun j hj => ?_, fun j hj => ?_⟩
  · rw [getD_set _ _ _ _ (by omega)]
    split
    · rename_i e'; subst e'; rw [fin_get e xs j h5 hk]
    · rw [fin_same e xs k h5]; exact h1 j (by omega)
  · rw [getD_set _ _ _ _ (by omega), if_neg (by omega)]
    exact h2 j (by omega)
theorem SeenK.five {xs ys : List Int} (h : SeenK true xs ys 5) (hx : xs.length = 8) : SeenK true xs (ys.set 5 7) 6 := by
  obtain ⟨hl, h1, h2⟩ := h
  refine ⟨by rw [List.length_set]; exact hl, fun j hj => ?_, fun j hj => ?_⟩
  · rw [getD_set _ _ _ _ (by omega), fin_five, getD_set _ _ _ _ (by rw [fin_len]; omega)]
    split
    · rfl
    · exact h1 j (by omega)
  · rw [getD_set _ _ _ _ (by omega), if_neg (by omega)]
    exact h2 j (by omega)
theorem SeenK.all {e : Bool} {xs ys : List Int} (h : SeenK e xs ys 8) (hx : xs.length = 8) : ys = fin e xs 8 := by
  obtain ⟨hl, h1, -⟩ := h
  apply List.ext_getElem
  · rw [hl, fin_len, hx]
  · intro i h3 h4
    have := h1 i (by omega)
    simpa [List.getD, h3, h4] using this
theorem out_stepK {xs : List Int} {j c : Nat} (hj : j < xs.length) (h : (outs 0 xs).drop c = outs j (xs.drop j)) :
    (xs.getD j 0 = 1 → (outs 0 xs)[c]? = some j ∧ (outs 0 xs).drop (c + 1) = outs (j + 1) (xs.drop (j + 1))) ∧ (xs.getD j 0 ≠ 1 → (outs 0 xs).drop c = outs (j + 1) (xs.drop (j + 1))) := by
  have hg : xs.getD j 0 = xs[j] := by simp [List.getD, hj]
  rw [List.drop_eq_getElem_cons hj, outs] at h
  rw [hg]
  constructor
  · intro e
    rw [if_pos e] at h
    have h0 := congrArg (fun l => l[0]?) h
    have h1 := congrArg (fun l => l.drop 1) h
    simp only [List.getElem?_drop, Nat.add_zero, List.getElem?_cons_zero] at h0
    simp only [List.drop_drop, List.drop_succ_cons, List.drop_zero] at h1
    exact ⟨h0, h1⟩
  · intro e
    rw [if_neg e] at h
    exact h
theorem set_getD (ys : List Int) (k : Nat) (hk : k < ys.length) : ys.set k (ys.getD k 0) = ys := by simp [List.getD, hk]
end Go.Proofs.Yteemfdbhcehfgaa.Tape
