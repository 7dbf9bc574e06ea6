/- The walks of the laws BucketRight and BucketForgets. -/
import Derived.Test.YtjepgdpnhoolcaaLeak4
namespace Go.Proofs.Ytjepgdpnhoolcaa.Tape
open Go.ChangeShapes Go.WideShapes Go.ChangeAt Go.RowKit

set_option maxRecDepth 100000 in
set_option maxHeartbeats 1000000 in
theorem right_walk (c : Int) (w : World) (wc : (Lit.int .u16 c).wf = true) :
    Calls Try.prog 10 #[.int .u16 c] w fun e w' => e = .returned (.bool true) ∧ Below w.heap.size w w' := by
  obtain ⟨c0, c1⟩ := bounds_u16 wc
  obtain ⟨K, hK⟩ : ∃ K : Nat, c % 2000 = (K : Int) := ⟨(c % 2000).toNat, by omega⟩
  have hK1 : K ≤ 2000 := by omega
  go_enter Try.func10, Try.ntmps10
  go_wp2_with fail
  refine (awake8_any _).mono ?_
  rintro e w1 ⟨rfl, hb1⟩
  have hbox := heap_alloc_new w1 (.cells #[.int .i64 0, .int .i64 0] 44)
  have hB1 : Below w.heap.size w (w1.alloc (.cells #[.int .i64 0, .int .i64 0] 44)) := hb1.alloc hb1.size _
  have hsz1 := hb1.size
  go_wp2_with fail
  go_loopw [4] (fun i wr => ∃ k : Nat, k ≤ K ∧ i = .int .i64 k ∧ wr.heap[w1.heap.size]? = some (.cells #[.int .i64 0, .int .i64 0] 44 (0, 0)) ∧ Below w.heap.size w wr) (fun i _ => K - (intOf i).toNat)
  case atStart => exact ⟨0, by omega, rfl, hbox, hB1⟩
  case round =>
    clear hbox hB1 hb1
    obtain ⟨k, hk, rfl, hbox, hB⟩ := hrel
    by_cases hlt : k < K
    · obtain ⟨x0, x1, f0, f1⟩ := leak_cells hbox
      have hu := unit_any 0 0 false ⟨0, 0⟩ wr rfl (by omega) (by omega)
      go_wp2_with fail
      refine hu.mono ?_
      rintro e w2 ⟨rfl, hb2⟩
      have hbox2 := block_keep hbox hb2
      have hB2 := hB.trans (hb2.mono hB.size)
      clear x0 x1 f0 f1 hu
      have hlt2 := heap_lt hbox2
      obtain ⟨x0, x1, f0, f1⟩ := leak_cells hbox2
      go_wp2
      go_roundw
      case rel => exact ⟨k + 1, by omega, by go_num, heap_more (leak_put hbox2 _ _) _, (put_below hB2 hsz1 _ _).alloc (put_below hB2 hsz1 _ _).size _⟩
      case measure => simp [intOf]; omega
    · go_wp2
      go_ret
      exact ⟨rfl, hB⟩

theorem unit_run (i : Nat) (h : i ≤ 200) : (Lk.mk i (i - 1)).unit true = ⟨i + 1, i⟩ := by
  rw [unit_cases]
  by_cases h0 : i = 0
  · subst h0; rfl
  · rw [if_neg h0, if_neg (by omega)]
    simp; omega

theorem unit_less (n s K j : Nat) (hs : s ≤ 255) (h : n ≠ 0 → 256 * n + j ≤ 256 * K + s) (hn : n ≤ 100) :
    ((Lk.mk n s).unit false).n ≤ 100 ∧ ((Lk.mk n s).unit false).s ≤ 255 ∧ (((Lk.mk n s).unit false).n ≠ 0 → 256 * ((Lk.mk n s).unit false).n + (j + 1) ≤ 256 * K + ((Lk.mk n s).unit false).s) := by
  rw [unit_cases]
  repeat' split
  all_goals simp_all
  all_goals omega

set_option maxRecDepth 100000 in
set_option maxHeartbeats 1000000 in
theorem forgets_walk (c d : Int) (w : World) (wc : (Lit.int .u8 c).wf = true) :
    Calls Try.prog 9 #[.int .u8 c, .int .u16 d] w fun e w' => e = .returned (.bool true) ∧ Below w.heap.size w w' := by
  obtain ⟨c0, c1⟩ := bounds_u8 wc
  obtain ⟨K, hK⟩ : ∃ K : Nat, c % 60 = (K : Int) := ⟨(c % 60).toNat, by omega⟩
  have hK1 : K < 60 := by omega
  have hK2 : c.tmod 60 = (K : Int) := by rw [Int.tmod_eq_emod_of_nonneg (by omega)]; exact hK
  clear hK
  go_enter Try.func9, Try.ntmps9
  go_wp2_with fail
  refine (awake8_any _).mono ?_
  rintro e w1 ⟨rfl, hb1⟩
  have hbox := heap_alloc_new w1 (.cells #[.int .i64 0, .int .i64 0] 44)
  have hB1 : Below w.heap.size w (w1.alloc (.cells #[.int .i64 0, .int .i64 0] 44)) := hb1.alloc hb1.size _
  have hsz1 := hb1.size
  go_wp2_with fail
  clear hK2
  go_loopw [7] (fun i wr => ∃ k : Nat, k ≤ K ∧ i = .int .i64 k ∧ wr.heap[w1.heap.size]? = some (.cells #[.int .i64 k, .int .i64 ((k - 1 : Nat) : Int)] 44 (0, 0)) ∧ Below w.heap.size w wr) (fun i _ => K - (intOf i).toNat)
  case atStart => exact ⟨0, by omega, rfl, hbox, hB1⟩
  case round =>
    clear hbox hB1 hb1
    obtain ⟨k, hk, rfl, hbox, hB⟩ := hrel
    have hu := unit_any k (k - 1) true ⟨k + 1, k⟩ wr (unit_run k (by omega)) (by omega) (by omega)
    generalize hs : k - 1 = s at hbox hu
    have HS : Hid (k - 1 = s) := hs
    clear hs
    obtain ⟨x0, x1, f0, f1⟩ := leak_cells hbox
    by_cases hlt : k < K
    · go_wp2_with fail
      refine hu.mono ?_
      rintro e w2 ⟨rfl, hb2⟩
      have hbox2 := block_keep hbox hb2
      have hB2 := hB.trans (hb2.mono hB.size)
      clear x0 x1 f0 f1 hu
      have hlt2 := heap_lt hbox2
      obtain ⟨x0, x1, f0, f1⟩ := leak_cells hbox2
      go_wp2
      go_roundw
      case rel => exact ⟨k + 1, by omega, by go_num, leak_put hbox2 _ _, put_below hB2 hsz1 _ _⟩
      case measure => simp [intOf]; omega
    · obtain rfl : k = K := by omega
      clear hlt hu
      go_wp2
      go_loopw [8] (fun i wx => ∃ (j n s : Nat), j ≤ 256 * k ∧ i = .int .i64 j ∧ s ≤ 255 ∧ n ≤ 100 ∧ (n ≠ 0 → 256 * n + j ≤ 256 * k + s) ∧ wx.heap[w1.heap.size]? = some (.cells #[.int .i64 n, .int .i64 s] 44 (0, 0)) ∧ Below w.heap.size w wx) (fun i _ => 256 * k - (intOf i).toNat)
      case atStart => exact ⟨0, k, s, by omega, rfl, by have := HS.out; omega, by omega, by omega, hbox, hB⟩
      case round =>
        clear hbox hB x0 x1 f0 f1
        obtain ⟨j, n, s, hj, rfl, hs, hn, hrem, hbox, hB⟩ := hrel
        obtain ⟨x0, x1, f0, f1⟩ := leak_cells hbox
        by_cases hlt : j < 256 * k
        · obtain ⟨g1, g2, g3⟩ := unit_less n s k j hs hrem hn
          obtain ⟨l, hl⟩ : ∃ l, (Lk.mk n s).unit false = l := ⟨_, rfl⟩
          rw [hl] at g1 g2 g3
          have hu := unit_any n s false l wr hl (by omega) hs
          clear hl hrem
          go_wp2_with fail
          refine hu.mono ?_
          rintro e w2 ⟨rfl, hb2⟩
          have hbox2 := block_keep hbox hb2
          have hB2 := hB.trans (hb2.mono hB.size)
          clear x0 x1 f0 f1 hu
          have hlt2 := heap_lt hbox2
          obtain ⟨x0, x1, f0, f1⟩ := leak_cells hbox2
          go_wp2
          go_roundw
          case rel => exact ⟨j + 1, l.n, l.s, by omega, by go_num, g2, g1, g3, leak_put hbox2 _ _, put_below hB2 hsz1 _ _⟩
          case measure => simp [intOf]; omega
        · obtain rfl : n = 0 := by
            by_cases h0 : n = 0
            · exact h0
            · have := hrem h0; omega
          clear hrem
          go_wp2
          go_ret
          exact ⟨rfl, hB⟩
end Go.Proofs.Ytjepgdpnhoolcaa.Tape
