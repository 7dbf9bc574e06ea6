/- The walk of the law BucketRare. -/
import Derived.Test.YtjepgdpnhoolcaaLeak4
namespace Go.Proofs.Ytjepgdpnhoolcaa.Tape
open Go.ChangeShapes Go.WideShapes Go.ChangeAt Go.RowKit

theorem rare_wrong (n s : Nat) (h : n = 0 ∨ (n = 1 ∧ s = 255)) : (Lk.mk n s).unit true = ⟨1, 0⟩ := by
  rcases h with rfl | ⟨rfl, rfl⟩ <;> rfl

theorem rare_right (n s k : Nat) (h : (n = 1 ∧ s = k ∧ k ≤ 255) ∨ (n = 0 ∧ s = 0 ∧ 256 ≤ k)) :
    ∃ n' s', (Lk.mk n s).unit false = ⟨n', s'⟩ ∧ ((n' = 1 ∧ s' = k + 1 ∧ k + 1 ≤ 255) ∨ (n' = 0 ∧ s' = 0 ∧ 256 ≤ k + 1)) := by
  rcases h with ⟨rfl, rfl, h⟩ | ⟨rfl, rfl, h⟩
  · by_cases h1 : s = 255
    · subst h1; exact ⟨0, 0, rfl, by omega⟩
    · refine ⟨1, s + 1, ?_, by omega⟩
      rw [unit_cases, if_neg (by omega), if_neg (by omega)]
      rfl
  · exact ⟨0, 0, rfl, by omega⟩

set_option maxRecDepth 100000 in
set_option maxHeartbeats 1000000 in
theorem rare_long (ao : Option Addr) (n cap : Nat) (w : World) (hm : n ≤ maxLen) (hl : 100 < n) :
    Calls Try.prog 8 #[.slice ao n cap] w fun e w' => e = .returned (.bool true) ∧ Below w.heap.size w w' := by
  unfold maxLen at hm
  go_enter Try.func8, Try.ntmps8
  go_wp2_with fail
  refine (awake8_any _).mono ?_
  rintro e w1 ⟨rfl, hb1⟩
  go_wp2_with fail
  refine (awake8_any _).mono ?_
  rintro e w2 ⟨rfl, hb2⟩
  go_wp2
  go_ret
  exact ⟨rfl, hb1.trans (hb2.mono hb1.size)⟩

set_option maxRecDepth 100000 in
set_option maxHeartbeats 1000000 in
theorem rare_short (ao : Option Addr) (n cap : Nat) (xs : List Int) (w : World) (hn : xs.length = n) (hl : n ≤ 100) (hr : Reads w ao (xs.map (.int .u16))) (hx : ∀ x ∈ xs, (Lit.int .u16 x).wf = true) :
    Calls Try.prog 8 #[.slice ao n cap] w fun e w' => e = .returned (.bool true) ∧ Below w.heap.size w w' := by
  have HN : Hid (xs.length = n) := hn
  clear hn
  go_enter Try.func8, Try.ntmps8
  go_wp2_with fail
  refine (awake8_any _).mono ?_
  rintro e w1 ⟨rfl, hb1⟩
  have hbox := heap_alloc_new w1 (.cells #[.int .i64 0, .int .i64 0] 44)
  have hB1 : Below w.heap.size w (w1.alloc (.cells #[.int .i64 0, .int .i64 0] 44)) := hb1.alloc hb1.size _
  have hsz1 := hb1.size
  go_wp2_with fail
  go_loopw [4] (fun i wr => ∃ (k p s : Nat), k ≤ n ∧ i = .int .i64 k ∧ s ≤ 255 ∧ (p = 0 ∨ (p = 1 ∧ s = 255)) ∧ wr.heap[w1.heap.size]? = some (.cells #[.int .i64 p, .int .i64 s] 44 (0, 0)) ∧ Below w.heap.size w wr) (fun i _ => n - (intOf i).toNat)
  case atStart => exact ⟨0, 0, 0, by omega, rfl, by omega, by omega, hbox, hB1⟩
  case round =>
    clear hbox hB1 hb1
    obtain ⟨k, p, s, hk, rfl, hs, hps, hbox, hB⟩ := hrel
    by_cases hlt : k < n
    · have hkl : k < xs.length := by have := HN.out; omega
      have hxk := bounds_u16 (hx _ (List.getElem_mem hkl))
      obtain ⟨y, hy⟩ : ∃ y, xs[k] = y := ⟨_, rfl⟩
      rw [hy] at hxk
      have HY : Hid (xs[k] = y) := hy
      obtain ⟨y0, y1⟩ := hxk
      obtain ⟨c, hc⟩ : ∃ c : Nat, y % 100 = (c : Int) := ⟨(y % 100).toNat, by omega⟩
      have hc1 : c < 100 := by omega
      obtain ⟨x0, x1, f0, f1⟩ := leak_cells hbox
      have hu := unit_any p s true ⟨1, 0⟩ wr (rare_wrong p s hps) (by omega) hs
      clear hy hps
      go_wp2_with fail
      refine hu.mono ?_
      rintro e w2 ⟨rfl, hb2⟩
      have hbox2 := block_keep hbox hb2
      have hB2 := hB.trans (hb2.mono hB.size)
      clear x0 x1 f0 f1 hu
      have hlt2 := heap_lt hbox2
      obtain ⟨x0, x1, f0, f1⟩ := leak_cells hbox2
      have hbox3 := leak_put hbox2 (.int .i64 1) (.int .i64 0)
      have hB3 := put_below hB2 hsz1 (.int .i64 1) (.int .i64 0)
      go_wp2_with fail
      clear x0 x1 f0 f1 hbox2 hB2 hbox hB hb2
      go_loopw [6] (fun i wx => ∃ (j p s : Nat), j ≤ 255 + c ∧ i = .int .i64 j ∧ ((p = 1 ∧ s = j ∧ j ≤ 255) ∨ (p = 0 ∧ s = 0 ∧ 256 ≤ j)) ∧ wx.heap[w1.heap.size]? = some (.cells #[.int .i64 p, .int .i64 s] 44 (0, 0)) ∧ Below w.heap.size w wx) (fun i _ => 255 + c - (intOf i).toNat)
      case atStart => exact ⟨0, 1, 0, by omega, rfl, by omega, hbox3, hB3⟩
      case round =>
        clear hbox3 hB3 hlt2
        obtain ⟨j, p, s, hj, rfl, hjs, hbox, hB⟩ := hrel
        obtain ⟨g, off, rfl, hcell⟩ := (hr.below (Nat.le_refl _) hB) k (.int .u16 xs[k]) (by simp [hkl])
        rw [HY.out] at hcell
        obtain ⟨x0, x1, f0, f1⟩ := leak_cells hbox
        by_cases hjc : j < 255 + c
        · obtain ⟨p', s', hU, hjs'⟩ := rare_right p s j hjs
          have hu := unit_any p s false ⟨p', s'⟩ wr hU (by omega) (by omega)
          have hp' : ¬ 64 ≤ p' := by omega
          clear hU
          go_wp2_with fail
          refine hu.mono ?_
          rintro e w2 ⟨rfl, hb2⟩
          have hbox2 := block_keep hbox hb2
          have hB2 := hB.trans (hb2.mono hB.size)
          clear x0 x1 f0 f1 hu
          have hlt2 := heap_lt hbox2
          obtain ⟨x0, x1, f0, f1⟩ := leak_cells hbox2
          go_wp2
          go_roundw
          case rel => exact ⟨j + 1, p', s', by omega, by go_num, hjs', leak_put hbox2 _ _, put_below hB2 hsz1 _ _⟩
          case measure => simp [intOf]; omega
        · go_wp2
          go_roundw
          case rel => exact ⟨k + 1, p, s, by omega, by go_num, by omega, by omega, hbox, hB⟩
          case measure => simp [intOf]; omega
    · go_wp2
      go_ret
      exact ⟨rfl, hB⟩

theorem rare_walk (ao : Option Addr) (n cap : Nat) (zs : List Int) (w : World) (h : (ao = none ∧ n = 0 ∧ cap = 0 ∧ zs = []) ∨
    ∃ x, ao = some x ∧ n ≤ cap ∧ cap ≤ maxLen ∧ zs.length = cap ∧ (∀ i, i < zs.length → w.cell? (x.add i) = some (.int .u16 (zs.getD i 0))) ∧ ∀ n ∈ zs, (Lit.int .u16 n).wf = true) :
    Calls Try.prog 8 #[.slice ao n cap] w fun e w' => e = .returned (.bool true) ∧ Below w.heap.size w w' := by
  obtain ⟨xs, hn, hm, hr, hx⟩ := row_nums h
  by_cases hl : 100 < n
  · exact rare_long ao n cap w hm hl
  · exact rare_short ao n cap xs w hn (by omega) hr hx
end Go.Proofs.Ytjepgdpnhoolcaa.Tape
