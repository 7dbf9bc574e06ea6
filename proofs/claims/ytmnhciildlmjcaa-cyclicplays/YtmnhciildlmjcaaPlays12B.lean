/- What CyclicPlays leans on, too. -/
import Derived.Test.YtmnhciildlmjcaaPlays12A
namespace Go.Proofs.Ytmnhciildlmjcaa.Tape
open Go.ChangeShapes Go.WideShapes Go.ChangeAt Go.RowKit
set_option linter.unusedVariables false

theorem set_new (W : World) (cs : Array Value) (t : TypeId) (v : Value) : (W.alloc (.cells cs t)).setCell ⟨W.heap.size, 0, none⟩ v = W.alloc (.cells (cs.setIfInBounds 0 v) t) := by
  simp only [World.setCell, World.alloc]
  congr 1
  apply Array.ext
  · simp
  · intro i h1 h2
    simp only [Array.getElem_modify, Array.getElem_push]
    by_cases h : i < W.heap.size
    · have : ¬ W.heap.size = i := by omega
      simp [h, this]
    · have : W.heap.size = i := by simp at h2; omega
      simp [this]
theorem nx_same (t : Cs) (s : Hs) : (t.nx s).1.2.sent ++ (t.nx s).1.2.next = s.sent ++ s.next ∧ (t.nx s).1.2.first = s.first ∧ (t.nx s).1.2.most = s.most ∧ (t.nx s).1.2.oct = s.oct := by
  unfold Cs.nx
  split
  · exact ⟨rfl, rfl, rfl, rfl⟩
  · split
    · exact ⟨rfl, rfl, rfl, rfl⟩
    · split
      · exact ⟨rfl, rfl, rfl, rfl⟩
      · rename_i x xs hn
        refine ⟨?_, rfl, rfl, rfl⟩
        simp only [hn, List.append_assoc, List.cons_append, List.nil_append]

theorem same_info {B B' : Nat} (b f k : Int) (i : Option (List Int)) (v v' : Value) (w : World) (h : InfoAt w B v i) (h' : InfoAt w B' v' i) :
    Calls Try.prog 13 #[.agg (uC b f true true k v), .agg (uC b f true true k v')] w fun e w' => e = .returned (.bool true) ∧ Below w.heap.size w w' := by
  cases i with
  | none =>
    obtain rfl : v = .slice none 0 0 := h
    obtain rfl : v' = .slice none 0 0 := h'
    exact rsame6_any b f true true k 0 false none 0 0 [] b f true true k 0 false none 0 0 [] true w (by simp) rfl rfl (by simp) (by simp) (Reads.nil _ _) (Reads.nil _ _)
  | some x =>
    have hm : HMsg w B v x := h
    have hm' : HMsg w B' v' x := h'
    obtain ⟨m, cap, cur, rfl, -, -, -, hr⟩ := hm.form
    obtain ⟨m', cap', cur', rfl, -, -, -, hr'⟩ := hm'.form
    exact rsame6_any b f true true k 0 false _ _ cap x b f true true k 0 false _ _ cap' x true w (by simp) rfl rfl hm.2.2.2 hm.2.2.2 hr hr'

theorem keep_both (w1 : World) (cs : Array Value) (hc : cs.size = 18) (h1 : cs.all (·.oneCell') = true) (us : Array Value) (h8 : us.size = 8) (hu1 : us.all (·.oneCell') = true) :
    ∃ Y1 Y2, (stS (.pointer (some ⟨w1.heap.size, 0, none⟩)) (.agg cs)).run Try.prog ((w1.alloc (.cells #[.slice none 0 0, .int .i64 0, .int .i64 0, .int .i64 0, .int .i64 0, .bool false, .int .i64 0, .int .i64 0, .bool false, .bool false, .int .i64 0, .bool false, .int .i64 0, .bool false, .bool false, .bool false, .bool false, .bool false] 28)).alloc (.cells #[.int .u8 0, .int .u8 0, .bool false, .bool false, .int .u8 0, .int .u8 0, .bool false, .slice none 0 0] 32)) = .ok () Y1 ∧
      (stU (.pointer (some ⟨w1.heap.size + 1, 0, none⟩)) (.agg us)).run Try.prog Y1 = .ok () Y2 ∧ Y2.heap[w1.heap.size]? = some (.cells cs 28 (0, 0)) ∧ Y2.heap[w1.heap.size + 1]? = some (.cells us 32 (0, 0)) ∧ Below w1.heap.size w1 Y2 := by
  have hS := heap_more (heap_alloc_new w1 (.cells #[.slice none 0 0, .int .i64 0, .int .i64 0, .int .i64 0, .int .i64 0, .bool false, .int .i64 0, .int .i64 0, .bool false, .bool false, .int .i64 0, .bool false, .int .i64 0, .bool false, .bool false, .bool false, .bool false, .bool false] 28)) (.cells #[.int .u8 0, .int .u8 0, .bool false, .bool false, .int .u8 0, .int .u8 0, .bool false, .slice none 0 0] 32)
  have hU := heap_alloc_new (w1.alloc (.cells #[.slice none 0 0, .int .i64 0, .int .i64 0, .int .i64 0, .int .i64 0, .bool false, .int .i64 0, .int .i64 0, .bool false, .bool false, .int .i64 0, .bool false, .int .i64 0, .bool false, .bool false, .bool false, .bool false, .bool false] 28)) (.cells #[.int .u8 0, .int .u8 0, .bool false, .bool false, .int .u8 0, .int .u8 0, .bool false, .slice none 0 0] 32)
  have hz : ∀ o, (w1.alloc o).heap.size = w1.heap.size + 1 := fun o => Array.size_push _
  rw [hz] at hU
  obtain ⟨W', hW⟩ : ∃ W', W' = (w1.alloc (.cells #[.slice none 0 0, .int .i64 0, .int .i64 0, .int .i64 0, .int .i64 0, .bool false, .int .i64 0, .int .i64 0, .bool false, .bool false, .int .i64 0, .bool false, .int .i64 0, .bool false, .bool false, .bool false, .bool false, .bool false] 28)).alloc (.cells #[.int .u8 0, .int .u8 0, .bool false, .bool false, .int .u8 0, .int .u8 0, .bool false, .slice none 0 0] 32) := ⟨_, rfl⟩
  have hB : Below w1.heap.size w1 W' := by rw [hW]; exact ((Below.refl _ _).alloc (Nat.le_refl _) _).alloc (by rw [hz]; omega) _
  rw [← hW] at hS hU ⊢
  clear hW
  have hg := putS_gb W' w1.heap.size cs
  have hU1 := (hg.block _ (heap_lt hU) (by simp)).trans hU
  have hs1 := putS_heap hS (ds := cs) hc.symm
  refine ⟨_, _, st_side hS rfl hc h1, st_unit hU1 rfl h8 hu1, ((putU_gb _ _ us).block _ (heap_lt hs1) (by simp)).trans hs1, putU_heap hU1 h8.symm, ?_⟩
  exact gb_below (putU_gb _ _ us) (gb_below hg hB (Nat.le_refl _) hB.size) (by omega) (Nat.le_trans hB.size hg.size)

theorem info5b : (Try.prog.info? 5).map (fun i => (i.zero, i.size, i.bytes)) = some (some (.int .u8 0), 1, 1) := by kernel_rfl
theorem put_same (s : Hs) (xs : List Int) : (s.put xs).first = s.first ∧ (s.put xs).most = s.most ∧ (s.put xs).oct = s.oct ∧ (s.put xs).sent = s.sent := by
  unfold Hs.put
  split <;> exact ⟨rfl, rfl, rfl, rfl⟩
end Go.Proofs.Ytmnhciildlmjcaa.Tape
