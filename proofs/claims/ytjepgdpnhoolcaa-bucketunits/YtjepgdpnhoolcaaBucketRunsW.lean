/- The walk of the law BucketRuns. -/
import Derived.Test.YtjepgdpnhoolcaaLeak4
import Derived.Deep.RegionHeld
namespace Go.Proofs.Ytjepgdpnhoolcaa.Tape
open Go.ChangeShapes Go.WideShapes Go.ChangeAt Go.RowKit

theorem reads_put {w : World} {b B : Nat} {ao : Option Addr} {vs : List Value} (hl : Lies w B ao) (hb : b < B) (hr : Reads w ao vs) (x y : Value) : Reads ((w.setCell ⟨b, 0, none⟩ x).setCell ⟨b, 1, none⟩ y) ao vs := fun k v hk => by
  obtain ⟨g, off, e, hc⟩ := hr k v hk
  have h1 := (hl _ e).1
  simp only at h1
  refine ⟨g, off, e, (World.cell?_of_block (a := ⟨g, off + k, none⟩) ?_).trans hc⟩
  exact (Below.heap_setCell _ _ _ _ (show g ≠ b by omega)).trans (Below.heap_setCell _ _ _ _ (show g ≠ b by omega))

theorem lies_put {w : World} {b B : Nat} {ao : Option Addr} (hl : Lies w B ao) (x y : Value) : Lies ((w.setCell ⟨b, 0, none⟩ x).setCell ⟨b, 1, none⟩ y) B ao := hl.mono (Nat.le_refl _) (by simp [World.setCell])

theorem below_more {w W : World} (h : Below w.heap.size w W) (o : Obj) : Below w.heap.size w (W.alloc o) := h.alloc h.size o

/-- What 64 wrong ones come to, i of them counted. -/
def Near (i n t : Nat) : Prop := i + 1 ≤ n ∨ (i ≤ n ∧ (i = 0 ∨ t + 1 ≤ i))

theorem near_step (i n t : Nat) (hi : i < 64) (ht : t ≤ 255) (h : Near i n t) : Near (i + 1) ((Lk.mk n t).unit true).n ((Lk.mk n t).unit true).s := by
  rw [unit_cases]
  unfold Near at *
  repeat' split
  all_goals simp_all
  all_goals omega

set_option maxRecDepth 100000 in
set_option maxHeartbeats 1000000 in
theorem runs_some (ao : Option Addr) (n cap : Nat) (xs : List Int) (w : World) (hn : xs.length = n) (hm : n ≤ maxLen) (hr : Reads w ao (xs.map (.int .u16))) (hx : ∀ x ∈ xs, (Lit.int .u16 x).wf = true) :
    Calls Try.prog 7 #[.slice ao n cap] w fun e w' => e = .returned (.bool true) ∧ Below w.heap.size w w' := by
  go_enter Try.func7, Try.ntmps7
  go_wp2_with fail
  refine (awake8_any _).mono ?_
  rintro e w1 ⟨rfl, hb1⟩
  have hbox := heap_alloc_new w1 (.cells #[.int .i64 0, .int .i64 0] 44)
  have hB1 : Below w.heap.size w (w1.alloc (.cells #[.int .i64 0, .int .i64 0] 44)) := hb1.alloc hb1.size _
  have hsz1 := hb1.size
  have hse : (w1.alloc (.cells #[.int .i64 0, .int .i64 0] 44)).heap.size = w1.heap.size + 1 := by simp
  have hus := unitsof_any ao n cap xs _ hn hm (hr.below (Nat.le_refl _) hB1) hx
  go_wp2_with fail
  refine hus.mono ?_
  rintro e w2 ⟨v, bs, rfl, hbl, hown, hb2⟩
  have hbox2 := block_keep hbox hb2
  have hB2 := hB1.trans (hb2.mono hB1.size)
  rw [hse] at hown
  obtain ⟨vo, cv, rfl, hcv, hrv, -⟩ := owns_form hown
  have hli := owns_lies hown
  obtain ⟨L, hL⟩ : ∃ L, bs.length = L := ⟨_, rfl⟩
  have HL : Hid (bs.length = L) := hL
  rw [hL] at hbl hcv
  rw [hL]
  clear hus hbox hB1 hse hown hb1 hb2 hL hr hx hn hm
  go_wp2_with fail
  go_loopw [5] (fun i wr => ∃ (k p s : Nat), k ≤ L ∧ i = .int .i64 k ∧ p ≤ 63 ∧ s ≤ 255 ∧ wr.heap[w1.heap.size]? = some (.cells #[.int .i64 p, .int .i64 s] 44 (0, 0)) ∧ Reads wr vo (bs.map .bool) ∧ Lies wr (w1.heap.size + 1) vo ∧ Below w.heap.size w wr) (fun i _ => L - (intOf i).toNat)
  case atStart => exact ⟨0, 0, 0, by omega, rfl, by omega, by omega, hbox2, hrv, hli, hB2⟩
  case round =>
    clear hbox2 hrv hli hB2
    obtain ⟨k, p, s, hk, rfl, hp, hs, hbox, hrv, hli, hB⟩ := hrel
    obtain ⟨x0, x1, f0, f1⟩ := leak_cells hbox
    by_cases hlt : k < L
    · have hkl : k < bs.length := by have := HL.out; omega
      obtain ⟨g, off, rfl, hc⟩ := hrv.bool k hkl
      generalize bs[k] = b at hc
      obtain ⟨l, hl⟩ : ∃ l, (Lk.mk p s).unit b = l := ⟨_, rfl⟩
      have g1 := unit_n ⟨p, s⟩ b
      have g2 := unit_s ⟨p, s⟩ b hs
      rw [hl] at g1 g2
      simp only at g1
      have HU : Hid ((Lk.mk p s).unit b = l) := hl
      clear hl
      go_wp2_with fail
      have HK : Hid (∀ W, Below wr.heap.size wr W → W.cell? ⟨w1.heap.size, 0, none⟩ = some (.int .i64 p) ∧ W.cell? ⟨w1.heap.size, 1, none⟩ = some (.int .i64 s) ∧ W.cell? ⟨g, off + k, none⟩ = some (.bool b)) := fun W hW => by
        obtain ⟨y0, y1, -⟩ := leak_cells (block_keep hbox hW)
        exact ⟨y0, y1, (hW.cell (World.block_lt_of_cell? wr _ hc)).trans hc⟩
      go_region_held (fun W => W.cell? ⟨w1.heap.size, 0, none⟩ = some (.int .i64 p) ∧ W.cell? ⟨w1.heap.size, 1, none⟩ = some (.int .i64 s) ∧ W.cell? ⟨g, off + k, none⟩ = some (.bool b))
        ((refine HK.out _ ?_; first | exact (Below.refl _ _).drew | exact (below_more (Below.refl _ _) _).drew | assumption | (refine below_more ?_ _; assumption) | (refine put_below ?_ (Nat.le_refl _) _ _; assumption)))
        (first
          | (go_at_call 21; refine (unit_any p s b l wr.drew HU.out (by omega) hs).mono ?_; rintro e w3 ⟨rfl, hb3⟩; have hb4 : Below wr.heap.size wr w3 := ((Below.refl _ _).drew).trans hb3; clear hb3)
          | (go_at_call 21; refine (unit_any p s b l (wr.alloc (.cells #[.int .i64 0, .int .i64 0] 44)).drew HU.out (by omega) hs).mono ?_; rintro e w3 ⟨rfl, hb3⟩; have hb4 : Below wr.heap.size wr w3 := (((Below.refl _ _).alloc (Nat.le_refl _) _).drew).trans (hb3.mono (by simp)); have hb5 := block_keep (show (wr.alloc (.cells #[.int .i64 0, .int .i64 0] 44)).drew.heap[wr.heap.size]? = some (.cells #[.int .i64 0, .int .i64 0] 44 (0, 0)) from heap_alloc_new wr _) hb3; obtain ⟨z0, z1, q0, q1⟩ := leak_cells hb5; clear hb3))
      · have hA := heap_alloc_new w3 (.cells #[.int .i64 l.n, .int .i64 l.s] 44)
        have hbW := below_more hb4 (.cells #[.int .i64 l.n, .int .i64 l.s] 44)
        have hge := hb4.size
        obtain ⟨W, hW⟩ : ∃ W, W = w3.alloc (.cells #[.int .i64 l.n, .int .i64 l.s] 44) := ⟨_, rfl⟩
        obtain ⟨A, hAA⟩ : ∃ A, A = w3.heap.size := ⟨_, rfl⟩
        rw [← hW] at hA hbW
        rw [← hAA] at hA hge
        rw [← hW, ← hAA]
        clear hW hAA
        have hboxW := block_keep hbox hbW
        have hBW := hB.trans (hbW.mono hB.size)
        have hrW := hrv.below (Nat.le_refl _) hbW
        have hlW := hli.mono (Nat.le_refl _) hbW.size
        obtain ⟨z0, z1, -, -⟩ := leak_cells hA
        clear x0 x1 f0 f1 HK hbox hB hrv hli hbW hA hb4 hc
        obtain ⟨x0, x1, f0, f1⟩ := leak_cells hboxW
        have hlt2 := heap_lt hboxW
        by_cases h64 : 64 ≤ l.n
        · have e64 : decide (64 ≤ l.n) = true := decide_eq_true h64
          rw [e64]
          go_wp2
          go_ret
          exact ⟨rfl, hBW⟩
        · have e64 : decide (64 ≤ l.n) = false := decide_eq_false h64
          rw [e64]
          go_wp2
          go_roundw
          case rel => exact ⟨k + 1, l.n, l.s, by omega, by go_num, by omega, g2, leak_put hboxW _ _, reads_put hlW (Nat.lt_succ_self _) hrW _ _, lies_put hlW _ _, put_below hBW hsz1 _ _⟩
          case measure => simp [intOf]; omega
      · have hA := leak_put hb5 (.int .i64 l.n) (.int .i64 l.s)
        have hbW := put_below hb4 (Nat.le_refl _) (.int .i64 l.n) (.int .i64 l.s)
        have hge := Nat.le_refl wr.heap.size
        obtain ⟨W, hW⟩ : ∃ W, W = (w3.setCell ⟨wr.heap.size, 0, none⟩ (.int .i64 l.n)).setCell ⟨wr.heap.size, 1, none⟩ (.int .i64 l.s) := ⟨_, rfl⟩
        rw [← hW] at hA hbW
        rw [← hW]
        clear hW z0 z1 q0 q1 hb5
        have hboxW := block_keep hbox hbW
        have hBW := hB.trans (hbW.mono hB.size)
        have hrW := hrv.below (Nat.le_refl _) hbW
        have hlW := hli.mono (Nat.le_refl _) hbW.size
        obtain ⟨z0, z1, -, -⟩ := leak_cells hA
        clear x0 x1 f0 f1 HK hbox hB hrv hli hbW hA hb4 hc
        obtain ⟨x0, x1, f0, f1⟩ := leak_cells hboxW
        have hlt2 := heap_lt hboxW
        by_cases h64 : 64 ≤ l.n
        · have e64 : decide (64 ≤ l.n) = true := decide_eq_true h64
          rw [e64]
          go_wp2
          go_ret
          exact ⟨rfl, hBW⟩
        · have e64 : decide (64 ≤ l.n) = false := decide_eq_false h64
          rw [e64]
          go_wp2
          go_roundw
          case rel => exact ⟨k + 1, l.n, l.s, by omega, by go_num, by omega, g2, leak_put hboxW _ _, reads_put hlW (Nat.lt_succ_self _) hrW _ _, lies_put hlW _ _, put_below hBW hsz1 _ _⟩
          case measure => simp [intOf]; omega
    · go_wp2_with fail
      clear hlt
      go_loopw [8, 9] (fun bd i wx => ∃ (j p s : Nat) (b : Bool), j ≤ 64 ∧ i = .int .i64 j ∧ bd = .bool b ∧ (b = false → p ≤ 63 ∧ s ≤ 255 ∧ Near j p s) ∧ wx.heap[w1.heap.size]? = some (.cells #[.int .i64 p, .int .i64 s] 44 (0, 0)) ∧ Below w.heap.size w wx) (fun _ i _ => 64 - (intOf i).toNat)
      case atStart => exact ⟨0, p, s, false, by omega, rfl, rfl, fun _ => ⟨hp, hs, by unfold Near; omega⟩, hbox, hB⟩
      case round =>
        clear hbox hB x0 x1 f0 f1 hp hs hrv hli
        obtain ⟨j, p, s, b, hj, rfl, rfl, hnr, hbox, hB⟩ := hrel
        obtain ⟨x0, x1, f0, f1⟩ := leak_cells hbox
        cases b
        · obtain ⟨hp, hs, hnear⟩ := hnr rfl
          clear hnr
          by_cases hj64 : j < 64
          · have hst := near_step j p s hj64 hs hnear
            obtain ⟨l, hl⟩ : ∃ l, (Lk.mk p s).unit true = l := ⟨_, rfl⟩
            have g1 := unit_n ⟨p, s⟩ true
            have g2 := unit_s ⟨p, s⟩ true hs
            rw [hl] at g1 g2 hst
            have hu := unit_any p s true l wr hl (by omega) hs
            have HST : Hid (Near (j + 1) l.n l.s) := hst
            clear hl hst hnear
            go_wp2_with fail
            refine hu.mono ?_
            rintro e w2 ⟨rfl, hb2⟩
            have hbox2 := block_keep hbox hb2
            have hB2 := hB.trans (hb2.mono hB.size)
            clear x0 x1 f0 f1 hu
            have hlt2 := heap_lt hbox2
            obtain ⟨x0, x1, f0, f1⟩ := leak_cells hbox2
            go_wp2
            go_roundw
            case rel => exact ⟨j + 1, l.n, l.s, decide (64 ≤ l.n), by omega, by go_num, rfl, fun h => ⟨by simp at h; omega, g2, HST.out⟩, leak_put hbox2 _ _, put_below hB2 hsz1 _ _⟩
            case measure => simp [intOf]; omega
          · have : False := by unfold Near at hnear; omega
            exact this.elim
        · clear hnr
          by_cases hj64 : j < 64
          all_goals
            go_wp2
            go_ret
            exact ⟨rfl, hB⟩

theorem runs_walk (ao : Option Addr) (n cap : Nat) (zs : List Int) (w : World) (h : (ao = none ∧ n = 0 ∧ cap = 0 ∧ zs = []) ∨
    ∃ x, ao = some x ∧ n ≤ cap ∧ cap ≤ maxLen ∧ zs.length = cap ∧ (∀ i, i < zs.length → w.cell? (x.add i) = some (.int .u16 (zs.getD i 0))) ∧ ∀ n ∈ zs, (Lit.int .u16 n).wf = true) :
    Calls Try.prog 7 #[.slice ao n cap] w fun e w' => e = .returned (.bool true) ∧ Below w.heap.size w w' := by
  obtain ⟨xs, hn, hm, hr, hx⟩ := row_nums h
  exact runs_some ao n cap xs w hn hm hr hx
end Go.Proofs.Ytjepgdpnhoolcaa.Tape
