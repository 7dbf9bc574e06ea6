/- The contract of the flag laws' own octets: so many, whatever they are. -/
import Derived.Test.YtfjfnfofbhikdaaEar7
namespace Go.Proofs.Ytfjfnfofbhikdaa.Tape
open Go.ChangeShapes Go.WideShapes Go.ChangeAt Go.RowKit

theorem row_owns5 {w : World} {g N : Nat} {qs : List Int} (hg : w.heap[g]? = some (.cells (qs.map (Value.int .u8)).toArray 5 (0, 0))) (hN : qs.length = N) (hm : N ≤ maxLen) : w.ownsRow g 5 1 (.slice (some ⟨g, 0, none⟩) N N) N (qs.map (.int .u8)) :=
  ⟨by simp [hN], .inr ⟨g, N, _, rfl, Nat.le_refl _, hg, Nat.le_refl _, hm, by simp [hN], by simp [List.take_of_length_le (show (qs.map (Value.int .u8)).length ≤ N by simp [hN])]⟩⟩
theorem map_set5 (qs : List Int) (k : Nat) (x : Int) : (qs.map (Value.int .u8)).set k (.int .u8 x) = (qs.set k x).map (.int .u8) := by rw [List.map_set]
theorem set_range {qs : List Int} (h : ∀ x ∈ qs, 0 ≤ x ∧ x ≤ 255) (k : Nat) (x : Int) (hx : 0 ≤ x ∧ x ≤ 255) : ∀ y ∈ qs.set k x, 0 ≤ y ∧ y ≤ 255 := fun y hy => by
  rcases List.mem_or_eq_of_mem_set hy with h' | rfl
  · exact h y h'
  · exact hx

set_option maxRecDepth 100000 in
set_option maxHeartbeats 1000000 in
theorem octets5_any (ao : Option Addr) (cap M N : Nat) (xs : List Int) (w : World) (hM : xs.length = M) (hl : M ≤ 1000) (hNl : N ≤ 1000) (hx : ∀ x ∈ xs, 0 ≤ x ∧ x ≤ 255) (h : Reads w ao (xs.map (.int .u8))) :
    Calls Try.prog 10 #[.slice ao M cap, .int .i64 N] w fun e w' => ∃ (qs : List Int) (v : Value), e = .returned v ∧ qs.length = N ∧ (∀ x ∈ qs, 0 ≤ x ∧ x ≤ 255) ∧ w'.ownsRow w.heap.size 5 1 v N (qs.map (.int .u8)) ∧ Below w.heap.size w w' := by
  obtain ⟨i0, hi, hz0, hz1, hz2⟩ := info_parts info5
  have HM : Hid (xs.length = M) := hM
  clear hM
  go_enter Try.func10, Try.ntmps10
  go_wp2_with (at_make; refine wpList_make_full _ rfl _ _ 22 rfl w.heap.size 5 i0 (.int .u8 0) 1 Try.underlying22 hi hz0 hz1 _ _ _ _ N rfl rfl rfl rfl (by rw [hz2]; omega) (by unfold maxLen; omega) (Nat.le_refl _) ?_; intro w1 hown1 hgrow1)
  have hb1 : Below w.heap.size w w1 := (Below.refl w.heap.size w).grown hgrow1 (Nat.le_refl _) (by simp)
  obtain ⟨qs, hg1, hq1, hq2⟩ : ∃ qs : List Int, w1.heap[w.heap.size]? = some (.cells (qs.map (Value.int .u8)).toArray 5 (0, 0)) ∧ qs.length = N ∧ ∀ x ∈ qs, 0 ≤ x ∧ x ≤ 255 := by
    rcases hown1.2 with ⟨h, _⟩ | ⟨g, cap', cur, hv, _, hg, _, _, hs, ht⟩
    · cases h
    · simp only [Value.slice.injEq, Option.some.injEq, Addr.mk.injEq, and_true, true_and] at hv
      obtain ⟨rfl, rfl⟩ := hv
      refine ⟨List.replicate N 0, ?_, by simp, by simp⟩
      rw [Nat.mul_one, show (Value.int .u8 0).cells = #[.int .u8 0] from rfl, toList_madeCells_one] at ht
      rw [hg, List.map_replicate, ← ht, List.take_of_length_le (by simp [hs])]
  have HG : Hid (w1.heap[w.heap.size]? = some (.cells (qs.map (Value.int .u8)).toArray 5 (0, 0))) := hg1
  have HQ : Hid (qs.length = N ∧ ∀ x ∈ qs, 0 ≤ x ∧ x ≤ 255) := ⟨hq1, hq2⟩
  clear hown1 hgrow1 hg1 hq1 hq2
  go_wp2
  go_loopw [6] (fun i wr => ∃ (k : Nat) (qs : List Int), k ≤ N ∧ i = .int .i64 k ∧ wr.heap[w.heap.size]? = some (.cells (qs.map (Value.int .u8)).toArray 5 (0, 0)) ∧ qs.length = N ∧ (∀ x ∈ qs, 0 ≤ x ∧ x ≤ 255) ∧ Below w.heap.size w wr) (fun i _ => N - (intOf i).toNat)
  case atStart => exact ⟨0, qs, by omega, rfl, HG.out, HQ.out.1, HQ.out.2, hb1⟩
  case round =>
    clear hb1 HG HQ
    obtain ⟨k, qs, hk, rfl, hg, hql, hqr, hbl⟩ := hrel
    by_cases hlt : k < N
    · have hcu : wr.cell? ⟨w.heap.size, k, none⟩ = some (.int .u8 qs[k]) := by rw [Lib.cell_of_heap hg]; simp [hql, hlt]
      have hfz : wr.frozen? ⟨w.heap.size, k, none⟩ = false := Lib.frozen_of_heap hg k
      generalize qs[k] = old at hcu
      have HG2 : Hid (wr.heap[w.heap.size]? = some (.cells (qs.map (Value.int .u8)).toArray 5 (0, 0))) := hg
      have HQL : Hid (qs.length = N) := hql
      have HQR : Hid (∀ x ∈ qs, 0 ≤ x ∧ x ≤ 255) := hqr
      clear hg hql hqr
      have e7 : IntKind.u8.wrap ((k : Int) * 7) = ((k : Int) * 7) % 256 := rfl
      by_cases h0 : M = 0
      · subst h0
        go_wp2
        go_roundw
        case rel => exact ⟨k + 1, qs.set k ((k : Int) * 7 % 256), by omega, by go_num, by have := row_set HG2.out k (.int .u8 ((k : Int) * 7 % 256)); rw [map_set5] at this; exact this, by simp [HQL.out], set_range HQR.out _ _ (by omega), hbl.setCell (p := ⟨w.heap.size, k, none⟩) (Nat.le_refl _) _⟩
        case measure => simp [intOf]; omega
      · have hM0 : 0 < M := by omega
        obtain ⟨m, hm⟩ : ∃ m, m = k % M := ⟨_, rfl⟩
        obtain ⟨d, hd⟩ : ∃ d, d = k / M := ⟨_, rfl⟩
        have hmM : m < M := by rw [hm]; exact Nat.mod_lt k hM0
        have em : (k : Int) % (M : Int) = (m : Int) := by rw [hm]; simp
        have ed : (k : Int) / (M : Int) = (d : Int) := by rw [hd]; simp
        have hd1 : d ≤ 1000 := by rw [hd]; exact Nat.le_trans (Nat.div_le_self _ _) (by omega)
        have hkm : m < xs.length := by have := HM.out; omega
        have h2 := h.below (Nat.le_refl _) hbl
        obtain ⟨g, off, rfl, hc⟩ := h2.byte m hkm
        have hgl : g < w.heap.size := by
          obtain ⟨g', off', e, hc'⟩ := h.byte m hkm
          simp only [Option.some.injEq, Addr.mk.injEq, and_true] at e
          obtain ⟨rfl, rfl⟩ := e
          exact World.block_lt_of_cell? w _ hc'
        have hxr := hx xs[m] (List.getElem_mem hkm)
        generalize xs[m] = x at hc hxr
        clear hm hd h2
        go_wp2
        go_region
        go_wp2
        go_roundw
        case rel =>
          refine ⟨k + 1, (qs.set k ((k : Int) * 7 % 256)).set k ((x + (d : Int)) % 256), by omega, by go_num, ?_, by simp [HQL.out], set_range (set_range HQR.out _ _ (by omega)) _ _ (by omega), ((hbl.setCell (p := ⟨w.heap.size, k, none⟩) (Nat.le_refl _) _).setCell (p := ⟨w.heap.size, k, none⟩) (Nat.le_refl _) _).drew⟩
          have := row_set HG2.out k (.int .u8 ((k : Int) * 7 % 256))
          rw [map_set5] at this
          have := row_set this k (.int .u8 ((x + (d : Int)) % 256))
          rw [map_set5] at this
          exact this
        case measure => simp [intOf]; omega
    · obtain rfl : k = N := by omega
      have HO : Hid (wr.ownsRow w.heap.size 5 1 (.slice (some ⟨w.heap.size, 0, none⟩) k k) k (qs.map (.int .u8))) := row_owns5 hg hql (by unfold maxLen; omega)
      have HQ : Hid (qs.length = k ∧ ∀ x ∈ qs, 0 ≤ x ∧ x ≤ 255) := ⟨hql, hqr⟩
      clear hg hql hqr
      go_wp2
      go_ret
      exact ⟨qs, _, rfl, HQ.out.1, HQ.out.2, HO.out, hbl⟩
end Go.Proofs.Ytfjfnfofbhikdaa.Tape
