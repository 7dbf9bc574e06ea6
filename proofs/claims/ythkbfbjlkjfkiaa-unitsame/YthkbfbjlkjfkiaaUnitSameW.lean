/- The walk of the law UnitSame, where the second unit is made of the first. -/
import Derived.Test.YthkbfbjlkjfkiaaUnitSame1
import Derived.Deep.Cut
namespace Go.Proofs.Ythkbfbjlkjfkiaa.Tape
open Go.ChangeShapes Go.WideShapes Go.ChangeAt Go.RowKit
attribute [local go_sem ↓] Go.wp_at_zero Go.wp_at_succ
attribute [local go_sem ↓] ldS_def

theorem turned {w : World} {B : Nat} {a0 a1 a2 a3 a4 a5 a6 a7 d0 d1 d2 d3 d4 d5 d6 d7 f' : Value} (h1 : w.heap[B]? = some (.cells #[a0, a1, a2, a3, a4, a5, a6, a7] 24 (0, 0))) (h2 : w.heap[B + 1]? = some (.cells #[d0, d1, d2, d3, d4, d5, d6, d7] 24 (0, 0))) :
    ((put8 w (B + 1) a0 a1 a2 a3 a4 a5 a6 a7).setCell ⟨B + 1, 1, none⟩ f').heap[B + 1]? = some (.cells #[a0, f', a2, a3, a4, a5, a6, a7] 24 (0, 0)) ∧ Below (B + 1) w ((put8 w (B + 1) a0 a1 a2 a3 a4 a5 a6 a7).setCell ⟨B + 1, 1, none⟩ f') ∧
    ((put8 w (B + 1) a0 a1 a2 a3 a4 a5 a6 a7).setCell ⟨B + 1, 1, none⟩ f').heap[B]? = some (.cells #[a0, a1, a2, a3, a4, a5, a6, a7] 24 (0, 0)) := by
  have hb : Below (B + 1) w ((put8 w (B + 1) a0 a1 a2 a3 a4 a5 a6 a7).setCell ⟨B + 1, 1, none⟩ f') :=
    Below.setCell (put8_below (Below.refl (B + 1) w) (Nat.le_refl _) a0 a1 a2 a3 a4 a5 a6 a7) (Nat.le_refl (B + 1)) f'
  refine ⟨?_, hb, ?_⟩
  · have h8 := put8_box h2 a0 a1 a2 a3 a4 a5 a6 a7
    exact row_set (cs := [a0, a1, a2, a3, a4, a5, a6, a7]) h8 1 f'
  · rw [hb.block _ (by omega)]; exact h1

set_option maxRecDepth 100000 in
set_option maxHeartbeats 2000000 in
theorem same_yes (b f : Int) (p q : Bool) (k s : Int) (wd : Bool) (ao : Option Addr) (m ca : Nat) (b' f' : Int) (p' q' : Bool) (k' s' : Int) (wd' : Bool) (bo : Option Addr) (n cb : Nat) (xs : List Int) (j : Nat) (w : World) (hlm : m ≤ 300) (hln : n ≤ 300) (hj : j ≤ 255) (hm : xs.length = m) (hx : ∀ x ∈ xs, 0 ≤ x ∧ x ≤ 255) (ha : Reads w ao (xs.map (.int .u8))) :
    Calls Try.prog 6 #[.agg #[.int .u8 b, .int .u8 f, .bool p, .bool q, .int .u8 k, .int .u8 s, .bool wd, .slice ao m ca], .agg #[.int .u8 b', .int .u8 f', .bool p', .bool q', .int .u8 k', .int .u8 s', .bool wd', .slice bo n cb], .bool true, .int .u8 j] w fun e w' => e = .returned (.bool true) ∧ Below w.heap.size w w' := by
  obtain ⟨hB0, hx1, hx2⟩ := two_boxes w (.cells #[.int .u8 b, .int .u8 f, .bool p, .bool q, .int .u8 k, .int .u8 s, .bool wd, .slice ao m ca] 24) (.cells #[.int .u8 b', .int .u8 f', .bool p', .bool q', .int .u8 k', .int .u8 s', .bool wd', .slice bo n cb] 24)
  have HM : Hid (xs.length = m) := hm
  have HX : Hid (∀ x ∈ xs, 0 ≤ x ∧ x ≤ 255) := hx
  clear hm hx
  by_cases hj6 : j < 6
  all_goals
    go_enter Try.func6, Try.ntmps6
    go_wp2_with fail
    refine (awake6_any _).mono ?_
    rintro e w1 ⟨rfl, hb1⟩
    have hx1' := block_keep hx1 hb1 (Nat.le_refl _)
    have hx2' := block_keep hx2 hb1 (Nat.le_refl _)
    obtain ⟨⟨-, -, -, -, -, -, -, c7⟩, -⟩ := unit_cells hx1'
    obtain ⟨⟨d0, d1, d2, d3, d4, d5, d6, d7⟩, df⟩ := unit_cells hx2'
    have hld := ld_unit hx1'
    have f0 := df 0
    have f1 := df 1
    have f2 := df 2
    have f3 := df 3
    have f4 := df 4
    have f5 := df 5
    have f6 := df 6
    have f7 := df 7
    have hB1 := hB0.trans (hb1.mono hB0.size)
    clear hx1 hx2 hB0 hb1 df
    obtain ⟨w1b, hw1b⟩ : ∃ w1b, w1b = (put8 w1 (w.heap.size + 1) (.int .u8 b) (.int .u8 f) (.bool p) (.bool q) (.int .u8 k) (.int .u8 s) (.bool wd) (.slice ao m ca)).setCell ⟨w.heap.size + 1, 1, none⟩ (.int .u8 f') := ⟨_, rfl⟩
    obtain ⟨hx2b, hb1b, hx1b⟩ := turned (f' := .int .u8 f') hx1' hx2'
    rw [← hw1b] at hx2b hb1b hx1b
    have hB1b := hB1.trans (hb1b.mono (by omega))
    unfold put8 at hw1b
    have HW : Hid (w1b = _) := hw1b
    have HX1 : Hid (w1b.heap[w.heap.size]? = _) := hx1b
    have HX2 : Hid (w1b.heap[w.heap.size + 1]? = _) := hx2b
    have HB1 : Hid (Below w.heap.size w w1b) := hB1b
    clear hw1b hx1b hx2b hB1b hb1b hx1' hx2' hB1
    go_upto_region 7 with fail
    rw [← HW.out]
    clear HW d0 d1 d2 d3 d4 d5 d6 f0 f1 f2 f3 f4 f5 f6 f7 hld
    have hx1b := HX1.out
    have hx2b := HX2.out
    have hB1b := HB1.out
    clear HX1 HX2 HB1
    try have hnc := names_cell w1b j hj6
    go_wp2_with fail
    obtain ⟨wA, hA⟩ : ∃ wA, wA = w1b.alloc (.cells #[.string ⟨#[83, 73, 79]⟩, .string ⟨#[83, 73, 78]⟩, .string ⟨#[83, 73, 69]⟩, .string ⟨#[83, 73, 79, 83]⟩, .string ⟨#[83, 73, 80, 79]⟩, .string ⟨#[83, 73, 66]⟩] 9) := ⟨_, rfl⟩
    rw [← hA]
    have hb2 : Below w1b.heap.size w1b wA := by rw [hA]; exact (Below.refl _ _).alloc (Nat.le_refl _) _
    have hBA := hB1b.trans (hb2.mono hB1b.size)
    have hxA1 := block_keep hx1b hb2 (Nat.le_refl _)
    have hxA2 := block_keep hx2b hb2 (Nat.le_refl _)
    have HC : Hid (∀ W, Below wA.heap.size wA W → (ldS (.pointer (some ⟨w.heap.size, 0, none⟩))).run Try.prog W = .ok (.agg #[.int .u8 b, .int .u8 f, .bool p, .bool q, .int .u8 k, .int .u8 s, .bool wd, .slice ao m ca]) W ∧ (ldS (.pointer (some ⟨w.heap.size + 1, 0, none⟩))).run Try.prog W = .ok (.agg #[.int .u8 b, .int .u8 f', .bool p, .bool q, .int .u8 k, .int .u8 s, .bool wd, .slice ao m ca]) W) := fun W hW => ⟨ld_unit (block_keep hxA1 hW (Nat.le_refl _)), ld_unit (block_keep hxA2 hW (Nat.le_refl _))⟩
    have hra0 := ha.below (Nat.le_refl _) hBA
    have HRA : Hid (∀ W, Below wA.heap.size wA W → Reads W ao (xs.map (.int .u8))) := fun W hW => hra0.below (Nat.le_refl _) hW
    obtain ⟨R, hR⟩ : ∃ R, decide (f = f') = R := ⟨_, rfl⟩
    have HR : Hid (decide (f = f') = R) := hR
    have hBd : Below wA.heap.size wA wA.drew := (Below.refl _ _).drew
    have hname : ∀ W, Calls Try.prog 19 #[.int .u8 j] W fun e w' => e = .returned (.string ⟨(nam j).toArray⟩) ∧ w' = W := fun W => name_any j W (by omega) (by omega)
    clear hA hb2 hB1b hx1b hx2b hxA1 hxA2 c7 d7 hra0 hR ha
    try clear hnc
    go_region_held (fun W => (ldS (.pointer (some ⟨w.heap.size, 0, none⟩))).run Try.prog W = .ok (.agg #[.int .u8 b, .int .u8 f, .bool p, .bool q, .int .u8 k, .int .u8 s, .bool wd, .slice ao m ca]) W ∧ (ldS (.pointer (some ⟨w.heap.size + 1, 0, none⟩))).run Try.prog W = .ok (.agg #[.int .u8 b, .int .u8 f', .bool p, .bool q, .int .u8 k, .int .u8 s, .bool wd, .slice ao m ca]) W) ((refine HC.out _ ?_; assumption)) (first
      | (go_at_call 17; have hB4 := hB4; refine (usame_any b f p q k s wd ao m ca xs b f p q k s wd ao m ca xs true _ (by simp) HM.out HM.out HX.out HX.out (HRA.out _ hB4) (HRA.out _ hB4)).mono ?_; rintro e w5 ⟨rfl, hb5⟩; have hB5 := hB4.trans (hb5.mono hB4.size))
      | (go_at_call 17; refine (usame_any b f p q k s wd ao m ca xs b f' p q k s wd ao m ca xs R _ (by rw [← HR.out]; simp) HM.out HM.out HX.out HX.out (HRA.out _ hBd) (HRA.out _ hBd)).mono ?_; rintro e w3 ⟨rfl, hb3⟩; have hB3 := hBd.trans (hb3.mono hBd.size))
      | (go_at_call 15; refine (rsame6_any b f p q k s wd ao m ca xs b f' p q k s wd ao m ca xs R _ (by rw [← HR.out]; simp) HM.out HM.out HX.out HX.out (HRA.out _ hB3) (HRA.out _ hB3)).mono ?_; rintro e w4 ⟨rfl, hb4⟩; have hB4 := hB3.trans (hb4.mono hB3.size))
      | (go_at_call 19; refine (hname _).mono ?_; rintro e w6 ⟨rfl, rfl⟩))
    go_wp2
    go_ret
    exact ⟨ret_bool (by first | (rw [nam_none (by omega)]; rfl) | simp), hBA.trans (hB5.mono hBA.size)⟩

theorem same_walk (v v' : Value) (one : Bool) (st : Int) (w : World) (h0 : 0 ≤ st) (h1 : st ≤ 255) (hv : IsUnit w v) (hv' : IsUnit w v') :
    Calls Try.prog 6 #[v, v', .bool one, .int .u8 st] w fun e w' => e = .returned (.bool true) ∧ Below w.heap.size w w' := by
  obtain ⟨b, f, p, q, k, s, wd, ao, m, ca, xs, rfl, -, -, -, -, hn, hc, hm, -, hr, hx⟩ := hv
  obtain ⟨b', f', p', q', k', s', wd', bo, n, cb, ys, rfl, -, -, -, -, hn', hc', hm', -, hr', hx'⟩ := hv'
  obtain ⟨j, rfl⟩ : ∃ j : Nat, st = j := ⟨st.toNat, by omega⟩
  by_cases hl : 300 < m ∨ (m ≤ 300 ∧ 300 < n)
  · exact same_long b f p q k s wd ao m ca b' f' p' q' k' s' wd' bo n cb one j w hl (Nat.le_trans hc hm) (Nat.le_trans hc' hm')
  · cases one with
    | false => exact same_no b f p q k s wd ao m ca b' f' p' q' k' s' wd' bo n cb xs ys j w (by omega) (by omega) (by omega) hn hn' hx hx' hr hr'
    | true => exact same_yes b f p q k s wd ao m ca b' f' p' q' k' s' wd' bo n cb xs j w (by omega) (by omega) (by omega) hn hx hr
end Go.Proofs.Ythkbfbjlkjfkiaa.Tape
