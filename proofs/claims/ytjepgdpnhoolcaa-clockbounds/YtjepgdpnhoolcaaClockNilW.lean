/- The walks of the laws ClockNil and ClockBounds. -/
import Derived.Test.YtjepgdpnhoolcaaClock3
namespace Go.Proofs.Ytjepgdpnhoolcaa.Tape
open Go.ChangeShapes Go.WideShapes Go.ChangeAt Go.RowKit

theorem two_reads (w : World) (i n : Int) : Reads (w.alloc (.cells #[.int .i64 i, .int .i64 n] 3)) (some ⟨w.heap.size, 0, none⟩) ([i, n].map (.int .i64)) := fun k v hk => by
  refine ⟨_, _, rfl, ?_⟩
  have h := heap_alloc_new w (.cells #[.int .i64 i, .int .i64 n] 3)
  unfold World.cell?
  rw [h]
  simpa using hk

set_option maxRecDepth 100000 in
set_option maxHeartbeats 1000000 in
theorem nil_walk (i n : Int) (w : World) : Calls Try.prog 5 #[.int .i64 i, .int .i64 n] w fun e w' => e = .returned (.bool true) ∧ Below w.heap.size w w' := by
  have hr := two_reads w i n
  have hB := (Below.refl w.heap.size w).alloc (Nat.le_refl _) (.cells #[.int .i64 i, .int .i64 n] 3)
  go_enter Try.func5, Try.ntmps5
  go_wp2_with fail
  refine (stop_nil 2 2 _ [i, n] _ rfl (by omega) hr).mono ?_
  rintro e w1 ⟨rfl, hw1⟩
  have hB1 : Below w.heap.size w w1 := by rw [hw1]; exact hB
  clear hw1 hB hr
  go_wp2_with fail
  refine (clear_nil _).mono ?_
  rintro e w2 ⟨rfl, hw2⟩
  obtain rfl := hw2.symm
  clear hw2
  go_wp2_with fail
  refine (awake7_any _).mono ?_
  rintro e w3 ⟨rfl, hb3⟩
  have hB3 := hB1.trans (hb3.mono hB1.size)
  clear hb3 hB1
  go_wp2_with (first
    | (go_at_call 12; refine (start_nil i n w3).mono ?_; rintro e w4 ⟨rfl, hw4⟩; obtain rfl := hw4.symm; clear hw4)
    | (go_at_call 17; refine (on_nil i w3).mono ?_; rintro e w4 ⟨rfl, hw4⟩; obtain rfl := hw4.symm; clear hw4)
    | (go_at_call 16; refine (left_nil i w3).mono ?_; rintro e w4 ⟨rfl, hw4⟩; obtain rfl := hw4.symm; clear hw4)
    | (go_at_call 18; refine (least_nil w3).mono ?_; rintro e w4 ⟨rfl, hw4⟩; obtain rfl := hw4.symm; clear hw4)
    | (go_at_call 15; refine (tick_nil w3).mono ?_; rintro e w4 ⟨rfl, hw4⟩; obtain rfl := hw4.symm; clear hw4))
  go_ret
  exact ⟨rfl, hB3⟩

theorem lst_zeros (k : Nat) (a : Int) : lst (List.replicate k 0) a = a := by
  induction k with
  | zero => rfl
  | succ k ih => rw [List.replicate_succ, lst, if_neg (by simp)]; exact ih

theorem lst_one (k : Nat) (hk : k < 8) (n : Int) (hn : 1 ≤ n) : lst ((List.replicate 8 0).set k n) 0 = n := by
  have h : k = 0 ∨ k = 1 ∨ k = 2 ∨ k = 3 ∨ k = 4 ∨ k = 5 ∨ k = 6 ∨ k = 7 := by omega
  have hn0 : ¬ n = 0 := by omega
  rcases h with rfl | rfl | rfl | rfl | rfl | rfl | rfl | rfl <;> simp [List.replicate, lst, hn0]

theorem lft_one (k : Nat) (hk : k < 8) (n : Int) : lft ((List.replicate 8 0).set k n) k = n := by
  unfold lft
  rw [if_pos (by omega), Int.toNat_natCast, set_get (by simpa using hk)]

theorem lft_zeros (i : Int) : lft (List.replicate 8 0) i = 0 := by
  unfold lft
  split
  · simp only [List.getD, List.getElem?_replicate]
    split <;> rfl
  · rfl

set_option maxRecDepth 100000 in
set_option maxHeartbeats 1000000 in
theorem bounds_walk (i n : Int) (w : World) : Calls Try.prog 4 #[.int .i64 i, .int .i64 n] w fun e w' => e = .returned (.bool true) ∧ Below w.heap.size w w' := by
  have hc : ClockAt (w.alloc (.cells #[.int .i64 0, .int .i64 0, .int .i64 0, .int .i64 0, .int .i64 0, .int .i64 0, .int .i64 0, .int .i64 0] 27)) w.heap.size (List.replicate 8 0) := clock_new w
  have hB := (Below.refl w.heap.size w).alloc (Nat.le_refl _) (.cells #[.int .i64 0, .int .i64 0, .int .i64 0, .int .i64 0, .int .i64 0, .int .i64 0, .int .i64 0, .int .i64 0] 27)
  by_cases h : 0 ≤ i ∧ i < 8 ∧ 1 ≤ n ∧ n ≤ 4294967296
  · obtain ⟨h0, h1, h2, h3⟩ := h
    obtain ⟨k, rfl⟩ : ∃ k : Nat, i = (k : Int) := ⟨i.toNat, by omega⟩
    have hk : k < 8 := by omega
    go_enter Try.func4, Try.ntmps4
    go_wp2_with fail
    refine (start_ok w.heap.size (List.replicate 8 0) k n _ hc hk h2 h3).mono ?_
    rintro e w1 ⟨rfl, hw1⟩
    have hc1 : ClockAt w1 w.heap.size ((List.replicate 8 0).set k n) := by rw [hw1]; exact hc.set k n (by omega)
    have hB1 : Below w.heap.size w w1 := by rw [hw1]; exact hB.setCell (Nat.le_refl _) _
    clear hw1 hc hB
    go_wp2_with fail
    refine (awake7_any _).mono ?_
    rintro e w2 ⟨rfl, hb2⟩
    have hB2 := hB1.trans (hb2.mono hB1.size)
    have hc2 := hc1.keep hb2
    have hon := on_any _ _ k w2 hc2
    have hle := left_any _ _ k w2 hc2
    have hlt := least_any _ _ w2 hc2
    rw [lft_one k hk n] at hon hle
    rw [lst_one k hk n h2] at hlt
    have hn0 : (n != 0) = true := by rw [bne_iff_ne]; omega
    clear hc1 hc2 hB1 hb2
    go_wp2_with (first
      | (go_at_call 17; refine hon.mono ?_; rintro e w4 ⟨rfl, hw4⟩; obtain rfl := hw4.symm; clear hw4)
      | (go_at_call 16; refine hle.mono ?_; rintro e w4 ⟨rfl, hw4⟩; obtain rfl := hw4.symm; clear hw4)
      | (go_at_call 18; refine hlt.mono ?_; rintro e w4 ⟨rfl, hw4⟩; obtain rfl := hw4.symm; clear hw4))
    go_ret
    exact ⟨rfl, hB2⟩
  · have hcase : (i < 0 ∨ (0 ≤ i ∧ ¬ i < 8) ∨ (0 ≤ i ∧ i < 8 ∧ ¬ 1 ≤ n) ∨ (0 ≤ i ∧ i < 8 ∧ 1 ≤ n ∧ ¬ n ≤ 4294967296)) := by omega
    have hst := start_bad w.heap.size i n (w.alloc (.cells #[.int .i64 0, .int .i64 0, .int .i64 0, .int .i64 0, .int .i64 0, .int .i64 0, .int .i64 0, .int .i64 0] 27)) h
    clear h
    rcases hcase with h0 | ⟨h0, h1⟩ | ⟨h0, h1, h2⟩ | ⟨h0, h1, h2, h3⟩
    all_goals
      go_enter Try.func4, Try.ntmps4
      go_wp2_with fail
      refine hst.mono ?_
      rintro e w1 ⟨rfl, hw1⟩
      have hc1 : ClockAt w1 w.heap.size (List.replicate 8 0) := by rw [hw1]; exact hc
      have hB1 : Below w.heap.size w w1 := by rw [hw1]; exact hB
      clear hw1 hc hB
      go_wp2_with fail
      refine (awake7_any _).mono ?_
      rintro e w2 ⟨rfl, hb2⟩
      have hB2 := hB1.trans (hb2.mono hB1.size)
      have hc2 := hc1.keep hb2
      have hon := on_any _ _ i w2 hc2
      rw [lft_zeros i] at hon
      clear hc1 hc2 hB1 hb2
      go_wp2_with (go_at_call 17; refine hon.mono ?_; rintro e w4 ⟨rfl, hw4⟩; obtain rfl := hw4.symm; clear hw4)
      go_ret
      exact ⟨rfl, hB2⟩
end Go.Proofs.Ytjepgdpnhoolcaa.Tape
