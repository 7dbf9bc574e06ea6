/- The walk of the law BucketUnits. -/
import Derived.Test.YtjepgdpnhoolcaaBucketRunsW
namespace Go.Proofs.Ytjepgdpnhoolcaa.Tape
open Go.ChangeShapes Go.WideShapes Go.ChangeAt Go.RowKit

set_option maxRecDepth 100000 in
set_option maxHeartbeats 1000000 in
theorem bunits_some (ao : Option Addr) (n cap : Nat) (xs : List Int) (w : World) (hn : xs.length = n) (hm : n ≤ maxLen) (hr : Reads w ao (xs.map (.int .u16))) (hx : ∀ x ∈ xs, (Lit.int .u16 x).wf = true) :
    Calls Try.prog 6 #[.slice ao n cap] w fun e w' => e = .returned (.bool true) ∧ Below w.heap.size w w' := by
  go_enter Try.func6, Try.ntmps6
  go_wp2_with fail
  refine (awake8_any _).mono ?_
  rintro e w1 ⟨rfl, hb1⟩
  have hus := unitsof_any ao n cap xs _ hn hm (hr.below (Nat.le_refl _) hb1) hx
  go_wp2_with fail
  refine hus.mono ?_
  rintro e w2 ⟨v, bs, rfl, hbl, hown, hb2⟩
  have hBv := hb1.trans (hb2.mono hb1.size)
  obtain ⟨vo, cv, rfl, hcv, hrv, -⟩ := owns_form hown
  obtain ⟨L, hL⟩ : ∃ L, bs.length = L := ⟨_, rfl⟩
  have HL : Hid (bs.length = L) := hL
  rw [hL] at hbl hcv
  rw [hL]
  obtain ⟨F, hF⟩ : ∃ F, fails lk0 bs 0 = F := ⟨_, rfl⟩
  have HF : Hid (fails lk0 bs 0 = F) := hF
  have hbox := heap_alloc_new w2 (.cells #[.int .i64 0, .int .i64 0] 44)
  have hB0 := below_more (Below.refl w2.heap.size w2) (.cells #[.int .i64 0, .int .i64 0] 44)
  clear hus hown hb1 hb2 hL hr hx hn hm hF
  go_wp2_with fail
  go_loopw [5, 6] (fun t i wr => ∃ (k : Nat) (l : Lk) (a : Int), k ≤ L ∧ i = .int .i64 k ∧ t = .int .i64 a ∧ ((a = -1 ∧ fails l (bs.drop k) k = F ∧ l.n ≤ 63 ∧ l.s ≤ 255) ∨ (a = F ∧ 0 ≤ a)) ∧ wr.heap[w2.heap.size]? = some (.cells #[.int .i64 l.n, .int .i64 l.s] 44 (0, 0)) ∧ Below w2.heap.size w2 wr) (fun _ i _ => L - (intOf i).toNat)
  case atStart => exact ⟨0, lk0, -1, by omega, rfl, rfl, .inl ⟨rfl, HF.out, by decide, by decide⟩, hbox, hB0⟩
  case round =>
    clear hbox hB0
    obtain ⟨k, ⟨p, s⟩, a, hk, rfl, rfl, hst, hbox, hB⟩ := hrel
    obtain ⟨x0, x1, f0, f1⟩ := leak_cells hbox
    simp only at hst hbox x0 x1
    by_cases hgo : k < L ∧ a = -1
    · obtain ⟨hlt, rfl⟩ := hgo
      obtain ⟨hfl, hp, hs⟩ : fails ⟨p, s⟩ (bs.drop k) k = F ∧ p ≤ 63 ∧ s ≤ 255 := by
        rcases hst with ⟨_, h⟩ | ⟨_, h⟩
        · exact h
        · omega
      clear hst
      have hkl : k < bs.length := by have := HL.out; omega
      obtain ⟨g, off, rfl, hc⟩ := (hrv.below (Nat.le_refl _) hB).bool k hkl
      rw [List.drop_eq_getElem_cons hkl] at hfl
      generalize bs[k] = b at hc hfl
      have HFL : Hid (fails ⟨p, s⟩ (b :: bs.drop (k + 1)) k = F) := hfl
      obtain ⟨l, hl⟩ : ∃ l, (Lk.mk p s).unit b = l := ⟨_, rfl⟩
      have g1 := unit_n ⟨p, s⟩ b
      have g2 := unit_s ⟨p, s⟩ b hs
      rw [hl] at g1 g2
      simp only at g1
      have HU : Hid ((Lk.mk p s).unit b = l) := hl
      have HK : Hid (∀ W, Below wr.heap.size wr W → W.cell? ⟨w2.heap.size, 0, none⟩ = some (.int .i64 p) ∧ W.cell? ⟨w2.heap.size, 1, none⟩ = some (.int .i64 s) ∧ W.cell? ⟨g, off + k, none⟩ = some (.bool b)) := fun W hW => by
        obtain ⟨y0, y1, -⟩ := leak_cells (block_keep hbox hW)
        exact ⟨y0, y1, (hW.cell (World.block_lt_of_cell? wr _ hc)).trans hc⟩
      clear hl hfl
      go_wp2_with fail
      go_region_held (fun W => W.cell? ⟨w2.heap.size, 0, none⟩ = some (.int .i64 p) ∧ W.cell? ⟨w2.heap.size, 1, none⟩ = some (.int .i64 s) ∧ W.cell? ⟨g, off + k, none⟩ = some (.bool b))
        ((refine HK.out _ ?_; first | exact (Below.refl _ _).drew | exact (below_more (Below.refl _ _) _).drew | assumption | (refine below_more ?_ _; assumption) | (refine put_below ?_ (Nat.le_refl _) _ _; assumption)))
        (first
          | (go_at_call 21; refine (unit_any p s b l wr.drew HU.out (by omega) hs).mono ?_; rintro e w3 ⟨rfl, hb3⟩; have hb4 : Below wr.heap.size wr w3 := ((Below.refl _ _).drew).trans hb3; clear hb3)
          | (go_at_call 21; refine (unit_any p s b l (wr.alloc (.cells #[.int .i64 0, .int .i64 0] 44)).drew HU.out (by omega) hs).mono ?_; rintro e w3 ⟨rfl, hb3⟩; have hb4 : Below wr.heap.size wr w3 := (((Below.refl _ _).alloc (Nat.le_refl _) _).drew).trans (hb3.mono (by simp)); have hb5 := block_keep (show (wr.alloc (.cells #[.int .i64 0, .int .i64 0] 44)).drew.heap[wr.heap.size]? = some (.cells #[.int .i64 0, .int .i64 0] 44 (0, 0)) from heap_alloc_new wr _) hb3; obtain ⟨z0, z1, q0, q1⟩ := leak_cells hb5; clear hb3))
      · have hA := heap_alloc_new w3 (.cells #[.int .i64 l.n, .int .i64 l.s] 44)
        have hbW := below_more hb4 (.cells #[.int .i64 l.n, .int .i64 l.s] 44)
        obtain ⟨W, hW⟩ : ∃ W, W = w3.alloc (.cells #[.int .i64 l.n, .int .i64 l.s] 44) := ⟨_, rfl⟩
        obtain ⟨A, hAA⟩ : ∃ A, A = w3.heap.size := ⟨_, rfl⟩
        rw [← hW] at hA hbW
        rw [← hAA] at hA
        rw [← hW, ← hAA]
        clear hW hAA
        have hboxW := block_keep hbox hbW
        have hBW := hB.trans (hbW.mono hB.size)
        obtain ⟨z0, z1, -, -⟩ := leak_cells hA
        clear x0 x1 f0 f1 HK hbox hB hbW hA hb4 hc
        obtain ⟨x0, x1, f0, f1⟩ := leak_cells hboxW
        have hlt2 := heap_lt hboxW
        by_cases h64 : 64 ≤ l.n
        · have e64 : decide (64 ≤ l.n) = true := decide_eq_true h64
          rw [e64]
          go_wp2
          go_roundw
          case rel => exact ⟨k + 1, l, k, by omega, by go_num, by go_num, .inr ⟨by have := HFL.out; rw [fails, HU.out, if_pos h64] at this; exact this, by omega⟩, leak_put hboxW _ _, put_below hBW (Nat.le_refl _) _ _⟩
          case measure => simp [intOf]; omega
        · have e64 : decide (64 ≤ l.n) = false := decide_eq_false h64
          rw [e64]
          go_wp2
          go_roundw
          case rel => exact ⟨k + 1, l, -1, by omega, by go_num, rfl, .inl ⟨rfl, by have := HFL.out; rw [fails, HU.out, if_neg h64] at this; exact this, by omega, g2⟩, leak_put hboxW _ _, put_below hBW (Nat.le_refl _) _ _⟩
          case measure => simp [intOf]; omega
      · have hA := leak_put hb5 (.int .i64 l.n) (.int .i64 l.s)
        have hbW := put_below hb4 (Nat.le_refl _) (.int .i64 l.n) (.int .i64 l.s)
        obtain ⟨W, hW⟩ : ∃ W, W = (w3.setCell ⟨wr.heap.size, 0, none⟩ (.int .i64 l.n)).setCell ⟨wr.heap.size, 1, none⟩ (.int .i64 l.s) := ⟨_, rfl⟩
        rw [← hW] at hA hbW
        rw [← hW]
        clear hW z0 z1 q0 q1 hb5
        have hboxW := block_keep hbox hbW
        have hBW := hB.trans (hbW.mono hB.size)
        obtain ⟨z0, z1, -, -⟩ := leak_cells hA
        clear x0 x1 f0 f1 HK hbox hB hbW hA hb4 hc
        obtain ⟨x0, x1, f0, f1⟩ := leak_cells hboxW
        have hlt2 := heap_lt hboxW
        by_cases h64 : 64 ≤ l.n
        · have e64 : decide (64 ≤ l.n) = true := decide_eq_true h64
          rw [e64]
          go_wp2
          go_roundw
          case rel => exact ⟨k + 1, l, k, by omega, by go_num, by go_num, .inr ⟨by have := HFL.out; rw [fails, HU.out, if_pos h64] at this; exact this, by omega⟩, leak_put hboxW _ _, put_below hBW (Nat.le_refl _) _ _⟩
          case measure => simp [intOf]; omega
        · have e64 : decide (64 ≤ l.n) = false := decide_eq_false h64
          rw [e64]
          go_wp2
          go_roundw
          case rel => exact ⟨k + 1, l, -1, by omega, by go_num, rfl, .inl ⟨rfl, by have := HFL.out; rw [fails, HU.out, if_neg h64] at this; exact this, by omega, g2⟩, leak_put hboxW _ _, put_below hBW (Nat.le_refl _) _ _⟩
          case measure => simp [intOf]; omega
    · obtain ⟨rfl, hstop⟩ : a = F ∧ (k < L → 0 ≤ a) := by
        rcases hst with ⟨h, hf, _⟩ | ⟨h, h'⟩
        · have hkL : ¬ k < L := fun e => hgo ⟨e, h⟩
          rw [List.drop_eq_nil_of_le (by have := HL.out; omega)] at hf
          exact ⟨h.trans hf, fun e => (hkL e).elim⟩
        · exact ⟨h, fun _ => h'⟩
      clear hst hgo
      by_cases hlt : k < L
      · have ha0 := hstop hlt
        clear hstop
        have hrx := hrv.below (Nat.le_refl _) hB
        have hun := units_any vo L cv bs a wr HL.out (by omega) hrx HF.out
        have hsz := hB.size
        have hBB := hBv.trans (hB.mono hBv.size)
        clear x0 x1 f0 f1 hbox
        go_wp2_with fail
        refine hun.mono ?_
        rintro e w4 ⟨rfl, hb4⟩
        have hr4 := hrx.below (Nat.le_refl _) hb4
        have hfa := rfails_any vo L cv bs a w4 HL.out (by omega) hr4 HF.out
        have hB4 := hBB.trans (hb4.mono hBB.size)
        clear hun hrx hb4 hBB hB hBv hrv
        go_wp2_with (go_at_call 23; refine hfa.mono ?_; rintro e w5 ⟨rfl, hw5⟩; obtain rfl := hw5.symm; clear hw5)
        go_ret
        exact ⟨rfl, hB4⟩
      · clear hstop
        have hrx := hrv.below (Nat.le_refl _) hB
        have hun := units_any vo L cv bs a wr HL.out (by omega) hrx HF.out
        have hsz := hB.size
        have hBB := hBv.trans (hB.mono hBv.size)
        clear x0 x1 f0 f1 hbox
        go_wp2_with fail
        refine hun.mono ?_
        rintro e w4 ⟨rfl, hb4⟩
        have hr4 := hrx.below (Nat.le_refl _) hb4
        have hfa := rfails_any vo L cv bs a w4 HL.out (by omega) hr4 HF.out
        have hB4 := hBB.trans (hb4.mono hBB.size)
        clear hun hrx hb4 hBB hB hBv hrv
        go_wp2_with (go_at_call 23; refine hfa.mono ?_; rintro e w5 ⟨rfl, hw5⟩; obtain rfl := hw5.symm; clear hw5)
        go_ret
        exact ⟨rfl, hB4⟩

theorem bunits_walk (ao : Option Addr) (n cap : Nat) (zs : List Int) (w : World) (h : (ao = none ∧ n = 0 ∧ cap = 0 ∧ zs = []) ∨
    ∃ x, ao = some x ∧ n ≤ cap ∧ cap ≤ maxLen ∧ zs.length = cap ∧ (∀ i, i < zs.length → w.cell? (x.add i) = some (.int .u16 (zs.getD i 0))) ∧ ∀ n ∈ zs, (Lit.int .u16 n).wf = true) :
    Calls Try.prog 6 #[.slice ao n cap] w fun e w' => e = .returned (.bool true) ∧ Below w.heap.size w w' := by
  obtain ⟨xs, hn, hm, hr, hx⟩ := row_nums h
  exact bunits_some ao n cap xs w hn hm hr hx
end Go.Proofs.Ytjepgdpnhoolcaa.Tape
