/- The contract of a Proof's Unit. -/
import Derived.Test.YtldjglmelbkngaaGreatAlign1
namespace Go.Proofs.YtldjglmelbkngaaGreat.Tape
open Go.ChangeShapes Go.WideShapes Go.ChangeAt Go.RowKit
set_option linter.unusedVariables false

theorem proof_cells {w : World} {p : Nat} {h : Bool} {n t : Int} (hh : w.heap[p]? = some (.cells [Value.bool h, .int .i64 n, .int .i64 t].toArray 103 (0, 0))) :
    (w.cell? ⟨p, 0, none⟩ = some (.bool h) ∧ w.cell? ⟨p, 1, none⟩ = some (.int .i64 n) ∧ w.cell? ⟨p, 2, none⟩ = some (.int .i64 t)) ∧ ∀ k, w.frozen? ⟨p, k, none⟩ = false := by
  refine ⟨⟨?_, ?_, ?_⟩, Lib.frozen_of_heap hh⟩ <;> rw [Lib.cell_of_heap hh] <;> rfl

set_option maxRecDepth 100000 in
set_option maxHeartbeats 1000000 in
theorem proof_any (hur : Bool) (n t : Int) (wr : Bool) (w : World) (hn : 0 ≤ n ∧ n ≤ 1000) (ht : 0 ≤ t ∧ t ≤ 1000) : Calls Tryz.prog 101 #[.agg #[.bool hur, .int .i64 n, .int .i64 t], .bool wr] w fun e w' => e = .returned (prf hur n t wr) ∧ Below w.heap.size w w' := by
  obtain ⟨n0, n1⟩ := hn
  obtain ⟨t0, t1⟩ := ht
  obtain ⟨N, hN⟩ : ∃ N, N = n + if wr = true then 1 else 0 := ⟨_, rfl⟩
  obtain ⟨M, hM⟩ : ∃ M : Int, M = if hur = true then 1 else 4 := ⟨_, rfl⟩
  have HN : Hid (prf hur n t wr = if N ≠ M then .tuple #[.agg #[.bool hur, .int .i64 N, .int .i64 t], .bool false, .bool false] else .tuple #[.agg #[.bool hur, .int .i64 0, .int .i64 (t + 1)], .bool true, .bool (decide (t + 1 ≥ 5))]) := by show _ = _; rw [hN, hM]; rfl
  obtain ⟨W, hW⟩ : ∃ W, W = (w.alloc (.cells #[.bool hur, .int .i64 (n + if wr = true then 1 else 0), .int .i64 t] 103)).alloc (.cells #[.bool false, .int .i64 0, .int .i64 0] 103) := ⟨_, rfl⟩
  have hF : Below w.heap.size w W ∧ W.heap.size = w.heap.size + 2 ∧ W.heap[w.heap.size]? = some (.cells [Value.bool hur, .int .i64 N, .int .i64 t].toArray 103 (0, 0)) ∧ W.heap[w.heap.size + 1]? = some (.cells [Value.bool false, .int .i64 0, .int .i64 0].toArray 103 (0, 0)) := by
    rw [← hN] at hW
    rw [hW]
    refine ⟨((Below.refl _ _).alloc (Nat.le_refl _) _).alloc (by simp) _, by simp, heap_more (heap_alloc_new w _) _, ?_⟩
    have := heap_alloc_new (w.alloc (.cells #[.bool hur, .int .i64 N, .int .i64 t] 103)) (.cells #[.bool false, .int .i64 0, .int .i64 0] 103)
    rwa [show (w.alloc (.cells #[.bool hur, .int .i64 N, .int .i64 t] 103)).heap.size = w.heap.size + 1 by simp] at this
  obtain ⟨hB, hs, hb, hd⟩ := hF
  have hBD := hB.drew
  obtain ⟨⟨c0, c1, c2⟩, cz⟩ := proof_cells (w := W.drew) hb
  generalize prf hur n t wr = R at HN ⊢
  have hmo := pmost_any hur N t W.drew
  rw [← hM] at hmo
  have HB : Hid (W.drew.heap[w.heap.size]? = some (.cells [Value.bool hur, .int .i64 N, .int .i64 t].toArray 103 (0, 0)) ∧ W.drew.heap[w.heap.size + 1]? = some (.cells [Value.bool false, .int .i64 0, .int .i64 0].toArray 103 (0, 0)) ∧ Below w.heap.size w W.drew ∧ W.drew.heap.size = w.heap.size + 2) := ⟨hb, hd, hBD, hs⟩
  have HS : Hid (∀ Y : World, Below W.drew.heap.size W.drew Y → Y.cell? ⟨w.heap.size, 0, none⟩ = some (.bool hur) ∧ Y.cell? ⟨w.heap.size, 1, none⟩ = some (.int .i64 N) ∧ Y.cell? ⟨w.heap.size, 2, none⟩ = some (.int .i64 t)) := fun Y hY => (proof_cells ((hY.block _ (by rw [HB.out.2.2.2]; omega)).trans HB.out.1)).1
  have HMM : Hid (M = 1 ∨ M = 4) := by show _ ∨ _; rw [hM]; cases hur <;> simp
  have hNb : 0 ≤ N ∧ N ≤ 1001 := by rw [hN]; split <;> omega
  obtain ⟨N0, N1⟩ := hNb
  clear hB hs hb hd hBD hN hM cz
  cases wr
  case' false => rw [if_neg (by decide), Int.add_zero] at hW
  case' true => rw [if_pos rfl] at hW
  all_goals
    go_enter Tryz.func101, Tryz.ntmps101
    go_wp2_with fail
    rw [← hW]
    clear hW
    go_region_held (fun Y => Y.cell? ⟨w.heap.size, 0, none⟩ = some (.bool hur) ∧ Y.cell? ⟨w.heap.size, 1, none⟩ = some (.int .i64 N) ∧ Y.cell? ⟨w.heap.size, 2, none⟩ = some (.int .i64 t)) (first | assumption | exact ⟨by assumption, by assumption, by assumption⟩)
      (first
      | (go_at_call 114; refine hmo.mono ?_; rintro e w1 ⟨rfl, hB1⟩; have hS1 := HS.out _ hB1))
    have hb1 := (hB1.block _ (by rw [HB.out.2.2.2]; omega)).trans HB.out.1
    have hd1 := (hB1.block _ (by rw [HB.out.2.2.2]; omega)).trans HB.out.2.1
    have HB1 : Hid (Below w.heap.size w w1) := HB.out.2.2.1.trans (hB1.mono HB.out.2.2.1.size)
    obtain ⟨⟨d0, d1, d2⟩, dz⟩ := proof_cells hb1
    obtain ⟨⟨e0, e1, e2⟩, ez⟩ := proof_cells hd1
    have dz1 := dz 1
    have dz2 := dz 2
    have ez0 := ez 0
    have ez1 := ez 1
    have ez2 := ez 2
    clear hB1 hb1 hd1 hS1 hmo c0 c1 c2 dz ez
    by_cases hNM : N = M
    · subst hNM
      have HE : Hid (R = .tuple #[.agg #[.bool hur, .int .i64 0, .int .i64 (t + 1)], .bool true, .bool (decide (t + 1 ≥ 5))]) := by have := HN.out; rwa [if_neg (by simp)] at this
      clear HN
      go_wp2_with fail
      go_region
      all_goals
        go_wp2
        refine bodyPost_ret (v := .tuple #[.agg #[.bool hur, .int .i64 0, .int .i64 (t + 1)], .bool true, .bool (decide (t + 1 ≥ 5))]) (by simp [results, Tryz.results101, go_sem, *]) rfl ⟨by rw [HE.out], ?_⟩
        repeat (first | exact HB1.out | refine Below.setCell ?_ (by first | exact Nat.le_refl _ | exact Nat.le_succ _) _ | refine Below.drew ?_)
    · have HE : Hid (R = .tuple #[.agg #[.bool hur, .int .i64 N, .int .i64 t], .bool false, .bool false]) := by have := HN.out; rwa [if_pos hNM] at this
      clear HN
      go_wp2
      refine bodyPost_ret (v := .tuple #[.agg #[.bool hur, .int .i64 N, .int .i64 t], .bool false, .bool false]) (by simp [results, Tryz.results101, go_sem, *]) rfl ⟨by rw [HE.out], ?_⟩
      repeat (first | exact HB1.out | refine Below.setCell ?_ (by first | exact Nat.le_refl _ | exact Nat.le_succ _) _ | refine Below.drew ?_)
end Go.Proofs.YtldjglmelbkngaaGreat.Tape
