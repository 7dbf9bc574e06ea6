/- Rows of what is told in memory: what a slice of them holds, one more behind it. -/
import Derived.Test.YtldjglmelbkngaaGreatBasic2
import Derived.Deep.AppendLies
import Derived.Lib.AppendZeros
namespace Go.Proofs.YtldjglmelbkngaaGreat.Tape
open Go.ChangeShapes Go.WideShapes Go.ChangeAt Go.RowKit
set_option linter.unusedVariables false

/-- What is told, cell by cell. -/
def tflat : List (Array Value) → List Value
  | [] => []
  | u :: us => u.toList ++ tflat us
theorem tflat_len : ∀ (us : List (Array Value)), (∀ u ∈ us, u.size = 3) → (tflat us).length = us.length * 3
  | [], _ => rfl
  | u :: us, h => by
    have h1 := h u (by simp)
    have := tflat_len us (fun x hx => h x (by simp [hx]))
    simp only [tflat, List.length_append, List.length_cons, Array.length_toList]
    omega
theorem tflat_append (us vs : List (Array Value)) : tflat (us ++ vs) = tflat us ++ tflat vs := by
  induction us with
  | nil => rfl
  | cons u us ih => simp [tflat, ih]
theorem tflat_get : ∀ (us : List (Array Value)), (∀ u ∈ us, u.size = 3) → ∀ i (u : Array Value), us[i]? = some u → ∀ j, j < 3 → (tflat us)[i * 3 + j]? = u[j]?
  | [], _, i, u, h, j, hj => by simp at h
  | x :: us, h3, 0, u, h, j, hj => by
    simp only [List.getElem?_cons_zero, Option.some.injEq] at h
    subst h
    have h1 := h3 x (by simp)
    simp only [tflat, Nat.zero_mul, Nat.zero_add]
    rw [List.getElem?_append_left (by simp only [Array.length_toList]; omega)]
    simp
  | x :: us, h3, i + 1, u, h, j, hj => by
    simp only [List.getElem?_cons_succ] at h
    have h1 := h3 x (by simp)
    have := tflat_get us (fun y hy => h3 y (by simp [hy])) i u h j hj
    rw [← this]
    simp only [tflat]
    rw [List.getElem?_append_right (by simp only [Array.length_toList]; omega)]
    congr 1
    simp only [Array.length_toList]
    omega

/-- A slice of what is told in memory: its elements. -/
def TRow (w : World) (v : Value) (us : List (Array Value)) : Prop :=
  (∀ u ∈ us, u.size = 3 ∧ u.all (·.oneCell') = true) ∧ w.ownsRow 0 50 3 v us.length (tflat us)

theorem TRow.nil (w : World) : TRow w (.slice none 0 0) [] := ⟨by simp, rfl, .inl ⟨rfl, rfl⟩⟩
theorem TRow.three {w : World} {v : Value} {us : List (Array Value)} (h : TRow w v us) : ∀ u ∈ us, u.size = 3 := fun u hu => (h.1 u hu).1
theorem TRow.type {w : World} {v : Value} {us : List (Array Value)} (h : TRow w v us) : ∀ g, v.ownBlock = some g → ∃ cur, w.heap[g]? = some (.cells cur 50 (0, 0)) := by
  rintro g hg
  rcases h.2.2 with ⟨rfl, _⟩ | ⟨g', cap, cur, rfl, _, hh, _⟩
  · simp [Value.ownBlock] at hg
  · simp [Value.ownBlock] at hg
    subst hg
    exact ⟨cur, hh⟩
theorem TRow.lt {w : World} {v : Value} {us : List (Array Value)} (h : TRow w v us) : ∀ g, v.ownBlock = some g → g < w.heap.size := fun g hg => by
  obtain ⟨cur, hh⟩ := h.type g hg
  exact heap_lt hh
theorem TRow.at_ {w w' : World} {v : Value} {us : List (Array Value)} (h : TRow w v us) (hk : ∀ g, v.ownBlock = some g → w'.heap[g]? = w.heap[g]?) : TRow w' v us := by
  refine ⟨h.1, h.2.1, ?_⟩
  rcases h.2.2 with h | ⟨g, cap, cur, rfl, hb, hh, rest⟩
  · exact .inl h
  · exact .inr ⟨g, cap, cur, rfl, hb, (hk g rfl).trans hh, rest⟩
theorem TRow.below {w w' : World} {v : Value} {us : List (Array Value)} (h : TRow w v us) (hb : Below w.heap.size w w') : TRow w' v us := h.at_ fun g hg => hb.block g (h.lt g hg)
theorem TRow.form {w : World} {v : Value} {us : List (Array Value)} (h : TRow w v us) : ∃ ao cap, v = .slice ao us.length cap := by
  rcases h.2.2 with ⟨rfl, h0⟩ | ⟨g, cap, cur, rfl, _⟩
  · exact ⟨none, 0, by rw [h0]⟩
  · exact ⟨_, cap, rfl⟩
/-- One of them, field by field. -/
theorem TRow.cell {w : World} {ao : Option Addr} {n cap : Nat} {us : List (Array Value)} (h : TRow w (.slice ao n cap) us) : n = us.length ∧ (∀ i (u : Array Value), us[i]? = some u → ∃ g, ao = some ⟨g, 0, none⟩ ∧ ∀ j, j < 3 → w.cell? ⟨g, i * 3 + j, none⟩ = u[j]?) := by
  have hl := tflat_len us h.three
  rcases h.2.2 with ⟨e, h0⟩ | ⟨g, cap', cur, e, _, hh, h1, _, h2, h3⟩
  · simp only [Value.slice.injEq] at e
    refine ⟨by omega, fun i u hu => ?_⟩
    have := List.eq_nil_of_length_eq_zero h0
    subst this
    simp at hu
  · simp only [Value.slice.injEq] at e
    obtain ⟨rfl, rfl, rfl⟩ := e
    refine ⟨rfl, fun i u hu => ⟨g, rfl, fun j hj => ?_⟩⟩
    have hi : i < us.length := (List.getElem?_eq_some_iff.1 hu).1
    rw [← tflat_get us h.three i u hu j hj, ← h3, Lib.cell_of_heap hh, List.getElem?_take, if_pos (by omega)]
    simp

theorem infoTold : (Tryz.prog.info? 50).map (fun i => (i.zero, i.size, i.bytes)) = some (some (.agg #[.int .u8 0, .int .u8 0, .slice none 0 0]), 3, 32) := by kernel_rfl

/-- One more behind a row. -/
theorem trow_run {w : World} {v : Value} {us : List (Array Value)} (hrow : TRow w v us) (ad : Addr) (u : Array Value) (c : Nat) (hc : ∀ j y, u.toList[j]? = some y → w.cell? (ad.add j) = some y) (h3 : u.size = 3) (h1 : u.all (·.oneCell') = true) (hn : us.length ≤ 2000000) :
    ∃ g cap w', (Builtin.append_ #[44, 44] 44 #[v, .slice (some ad) 1 c]).run Tryz.prog w = .ok (.slice (some ⟨g, 0, none⟩) (us.length + 1) cap) w' ∧ TRow w' (.slice (some ⟨g, 0, none⟩) (us.length + 1) cap) (us ++ [u]) ∧ w.grownBy w' v.ownBlock ∧ (v.ownBlock = some g ∨ w.heap.size ≤ g) := by
  obtain ⟨i0, hi, hz0, hz1, hz2⟩ := info_parts infoTold
  have h1c : ∀ y ∈ u.toList, y.oneCell' = true := fun y hy => by
    rw [Array.all_eq_true'] at h1
    exact h1 y (by simpa using hy)
  obtain ⟨g, cap, w', hr, h2, h4, h5, -⟩ := run_append_lies (P := Tryz.prog) w 44 44 0 50 i0 _ 3 32 Tryz.underlying44 hi hz0 hz1 hz2 rfl (by decide) v us.length (tflat us) hrow.2 ad 1 c u.toList (by simp [h3]) hc h1c (by decide) (by unfold maxLen; omega) (by omega) (Nat.zero_le _) _ rfl
  refine ⟨g, cap, w', hr, ⟨fun y hy => ?_, ?_⟩, h4, h5.imp id (fun e => by omega)⟩
  · rcases List.mem_append.1 hy with hy | hy
    · exact hrow.1 y hy
    · obtain rfl : y = u := by simpa using hy
      exact ⟨h3, h1⟩
  · rw [tflat_append, List.length_append]
    simpa [tflat] using h2

/-- An append whose run is known, at a step of a region that draws its order. -/
theorem step_append_td {w : World} {ops : Array Oper} {o : Oper} {a : Act} {K : Act → World → Prop} {Q : Exit → Act → World → Prop} {E : Prop} (hgd : o.guard = none) (s x : Operand)
    (ho : o.op = .call { callee := .builtin .append, args := #[s, x], argTypes := #[44, 44] }) (hty : o.type = 44) (vs vx : Value) (hs : a.eval s = vs) (hx : a.eval x = vx)
    (v' : Value) (w' : World) (hr : (Builtin.append_ #[44, 44] 44 #[vs, vx]).run Tryz.prog w = .ok v' w') (h : K (a.put o.dst v') w') :
    if Region.wanted o (yielded ops a.tmps) = true then Oper.wp Tryz.prog o a w K Q else E := by
  have hw : Region.wanted o (yielded ops a.tmps) = true := by simp [Region.wanted, hgd]
  rw [if_pos hw]
  exact Lib.wp_append_run w s x 44 44 ho vs vx hs hx v' w' (by rw [hty]; exact hr) h
end Go.Proofs.YtldjglmelbkngaaGreat.Tape
