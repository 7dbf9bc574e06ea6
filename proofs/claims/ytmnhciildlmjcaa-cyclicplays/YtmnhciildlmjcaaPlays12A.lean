/- What CyclicPlays' walk leans on. -/
import Derived.Test.YtmnhciildlmjcaaBoth12
import Derived.Deep.CutBlock
namespace Go.Proofs.Ytmnhciildlmjcaa.Tape
open Go.ChangeShapes Go.WideShapes Go.ChangeAt Go.RowKit
set_option linter.unusedVariables false

theorem act_ten {w : World} {b : Nat} {c0 c1 c2 c3 c4 c5 c6 c7 c8 c9 : Value} {t : TypeId} (h : w.heap[b]? = some (.cells #[c0, c1, c2, c3, c4, c5, c6, c7, c8, c9] t (0, 0))) :
    w.cell? ⟨b, 0, none⟩ = some c0 ∧ w.cell? ⟨b, 1, none⟩ = some c1 ∧ w.cell? ⟨b, 9, none⟩ = some c9 ∧ (ldU (.pointer (some ⟨b, 2, none⟩))).run Try.prog w = .ok (.agg #[c2, c3, c4, c5, c6, c7, c8, c9]) w := by
  refine ⟨?_, ?_, ?_, ?_⟩
  · rw [Lib.cell_of_heap h]; rfl
  · rw [Lib.cell_of_heap h]; rfl
  · rw [Lib.cell_of_heap h]; rfl
  · have hr : w.rangeAt b 2 [c2, c3, c4, c5, c6, c7, c8, c9] := by
      have := World.rangeAt_of_block h 2 8
      simpa using this
    exact run_loadAt_mid (P := Try.prog) w b 2 32 [c2, c3, c4, c5, c6, c7, c8, c9] _ hr Try.underlying32 rfl (by rw [info37]; simp)

theorem unit_kind {w : World} {b : Nat} {c0 c1 c2 c3 c4 c5 c6 c7 : Value} (h : w.heap[b]? = some (.cells #[c0, c1, c2, c3, c4, c5, c6, c7] 32 (0, 0))) (v : Value) : (w.setCell ⟨b, 4, none⟩ v).heap[b]? = some (.cells #[c0, c1, c2, c3, v, c5, c6, c7] 32 (0, 0)) :=
  row_set (cs := [c0, c1, c2, c3, c4, c5, c6, c7]) h 4 v
theorem unit_nums {w : World} {b : Nat} {c0 c1 c2 c3 c4 c5 c6 c7 : Value} (h : w.heap[b]? = some (.cells #[c0, c1, c2, c3, c4, c5, c6, c7] 32 (0, 0))) (u v : Value) : ((w.setCell ⟨b, 0, none⟩ u).setCell ⟨b, 1, none⟩ v).heap[b]? = some (.cells #[u, v, c2, c3, c4, c5, c6, c7] 32 (0, 0)) :=
  row_set (cs := [u, c1, c2, c3, c4, c5, c6, c7]) (row_set (cs := [c0, c1, c2, c3, c4, c5, c6, c7]) h 0 u) 1 v

/-- A message of k octets, the first one i. -/
def oct (i : Int) (k : Nat) : List Int := i :: List.replicate (k - 1) 0
theorem oct_len (i : Int) {k : Nat} (hk : 1 ≤ k) : (oct i k).length = k := by simp [oct]; omega
theorem oct_in {i : Int} {k : Nat} (h0 : 0 ≤ i) (h1 : i ≤ 255) : ∀ x ∈ oct i k, 0 ≤ x ∧ x ≤ 255 := by
  intro x hx
  simp only [oct, List.mem_cons, List.mem_replicate] at hx
  omega
theorem made_oct (w : World) (i : Int) (k B : Nat) (hk : 3 ≤ k) (hk2 : k ≤ 273) (h0 : 0 ≤ i) (h1 : i ≤ 255) (hB : B ≤ w.heap.size) :
    (∃ c, (w.alloc (.cells (madeCells #[.int .u8 0] k) 5)).cell? ⟨w.heap.size, 0, none⟩ = some c) ∧ (∀ j, (w.alloc (.cells (madeCells #[.int .u8 0] k) 5)).frozen? ⟨w.heap.size, j, none⟩ = false) ∧
    HMsg ((w.alloc (.cells (madeCells #[.int .u8 0] k) 5)).setCell ⟨w.heap.size, 0, none⟩ (.int .u8 i)) B (.slice (some ⟨w.heap.size, 0, none⟩) k k) (oct i k) ∧ Below w.heap.size w ((w.alloc (.cells (madeCells #[.int .u8 0] k) 5)).setCell ⟨w.heap.size, 0, none⟩ (.int .u8 i)) := by
  have hh := heap_alloc_new w (.cells (madeCells #[.int .u8 0] k) 5)
  have hmk : madeCells #[.int .u8 0] k = (List.replicate k (Value.int .u8 0)).toArray := by
    apply Array.ext
    · rw [size_madeCells]; simp
    · intro j h1 h2
      simp [madeCells, Nat.mod_one]
  rw [hmk] at hh ⊢
  have hown := owns_new hB (List.replicate k (Value.int .u8 0)) k (by simp) (by unfold maxLen; omega)
  have hset := owns_set hown 0 (.int .u8 i)
  have hlen := oct_len i (show 1 ≤ k by omega)
  have hl : (List.replicate k (Value.int .u8 0)).set 0 (.int .u8 i) = (oct i k).map (.int .u8) := by
    cases k with
    | zero => omega
    | succ k => simp [oct, List.replicate_succ]
  rw [hl] at hset
  obtain ⟨c0, -, -⟩ := owns_cell hown 0 (by simp; omega)
  refine ⟨⟨_, c0⟩, Lib.frozen_of_heap hh, ⟨by rw [hlen]; exact hset, by omega, by omega, oct_in h0 h1⟩, ?_⟩
  exact ((Below.refl _ _).alloc (Nat.le_refl _) _).setCell (Nat.le_refl _) _
end Go.Proofs.Ytmnhciildlmjcaa.Tape
