/- The walk of the law UnitSame. -/
import Derived.Test.YthkbfbjlkjfkiaaUnitRightsW
import Derived.Deep.RegionHeld
namespace Go.Proofs.Ythkbfbjlkjfkiaa.Tape
open Go.ChangeShapes Go.WideShapes Go.ChangeAt Go.RowKit
attribute [local go_sem ↓] Go.wp_at_zero Go.wp_at_succ

theorem two_boxes (w : World) (o1 o2 : Obj) : Below w.heap.size w ((w.alloc o1).alloc o2) ∧ ((w.alloc o1).alloc o2).heap[w.heap.size]? = some o1 ∧ ((w.alloc o1).alloc o2).heap[w.heap.size + 1]? = some o2 := by
  refine ⟨((Below.refl _ _).alloc (Nat.le_refl _) _).alloc (by simp) _, heap_more (heap_alloc_new w o1) _, ?_⟩
  have := heap_alloc_new (w.alloc o1) o2
  simpa using this

set_option maxRecDepth 100000 in
set_option maxHeartbeats 1000000 in
theorem same_long (b f : Int) (p q : Bool) (k s : Int) (wd : Bool) (ao : Option Addr) (m ca : Nat) (b' f' : Int) (p' q' : Bool) (k' s' : Int) (wd' : Bool) (bo : Option Addr) (n cb : Nat) (one : Bool) (st : Int) (w : World) (hl : 300 < m ∨ (m ≤ 300 ∧ 300 < n)) (hm : m ≤ maxLen) (hn : n ≤ maxLen) :
    Calls Try.prog 6 #[.agg #[.int .u8 b, .int .u8 f, .bool p, .bool q, .int .u8 k, .int .u8 s, .bool wd, .slice ao m ca], .agg #[.int .u8 b', .int .u8 f', .bool p', .bool q', .int .u8 k', .int .u8 s', .bool wd', .slice bo n cb], .bool one, .int .u8 st] w fun e w' => e = .returned (.bool true) ∧ Below w.heap.size w w' := by
  unfold maxLen at hm hn
  obtain ⟨hB0, hx1, hx2⟩ := two_boxes w (.cells #[.int .u8 b, .int .u8 f, .bool p, .bool q, .int .u8 k, .int .u8 s, .bool wd, .slice ao m ca] 24) (.cells #[.int .u8 b', .int .u8 f', .bool p', .bool q', .int .u8 k', .int .u8 s', .bool wd', .slice bo n cb] 24)
  rcases hl with hl | ⟨hl1, hl⟩
  all_goals
    go_enter Try.func6, Try.ntmps6
    go_wp2_with fail
    refine (awake6_any _).mono ?_
    rintro e w1 ⟨rfl, hb1⟩
    obtain ⟨⟨-, -, -, -, -, -, -, c7⟩, -⟩ := unit_cells (block_keep hx1 hb1 (Nat.le_refl _))
    obtain ⟨⟨-, -, -, -, -, -, -, d7⟩, -⟩ := unit_cells (block_keep hx2 hb1 (Nat.le_refl _))
    have hB1 := hB0.trans (hb1.mono hB0.size)
    clear hx1 hx2 hB0 hb1
    go_wp2_with fail
    refine (awake6_any _).mono ?_
    rintro e w2 ⟨rfl, hb2⟩
    go_wp2
    go_ret
    exact ⟨rfl, hB1.trans (hb2.mono hB1.size)⟩

/-- A unit that lies in a block of its own, loaded whole. -/
theorem load_unit {w : World} {B : Nat} {c0 c1 c2 c3 c4 c5 c6 c7 : Value} (h : w.heap[B]? = some (.cells #[c0, c1, c2, c3, c4, c5, c6, c7] 24 (0, 0))) :
    (Instr.loadAt 24 (.pointer (some ⟨B, 0, none⟩))).run Try.prog w = .ok (.agg #[c0, c1, c2, c3, c4, c5, c6, c7]) w :=
  run_loadAt_mid w B 0 24 [c0, c1, c2, c3, c4, c5, c6, c7] _ (World.rangeAt_of_block h 0 8) Try.underlying24 rfl (by kernel_rfl)

/-- A unit that is loaded whole, under a name of its own. -/
def ldS (v : Value) : Sem Value := Instr.loadAt 24 v
theorem ldS_def (v : Value) : Instr.loadAt 24 v = ldS v := rfl
theorem ld_unit {w : World} {B : Nat} {c0 c1 c2 c3 c4 c5 c6 c7 : Value} (h : w.heap[B]? = some (.cells #[c0, c1, c2, c3, c4, c5, c6, c7] 24 (0, 0))) : (ldS (.pointer (some ⟨B, 0, none⟩))).run Try.prog w = .ok (.agg #[c0, c1, c2, c3, c4, c5, c6, c7]) w := load_unit h

theorem nam_none {j : Nat} (h : ¬ j < 6) : nam j = [] := by
  unfold nam
  rw [if_neg (by omega), if_neg (by omega), if_neg (by omega), if_neg (by omega), if_neg (by omega), if_neg (by omega)]

theorem names_cell (w : World) (j : Nat) (hj : j < 6) : (w.alloc (.cells #[.string ⟨#[83, 73, 79]⟩, .string ⟨#[83, 73, 78]⟩, .string ⟨#[83, 73, 69]⟩, .string ⟨#[83, 73, 79, 83]⟩, .string ⟨#[83, 73, 80, 79]⟩, .string ⟨#[83, 73, 66]⟩] 9)).cell? ⟨w.heap.size, j, none⟩ = some (.string ⟨(nam j).toArray⟩) := by
  have h := heap_alloc_new w (.cells #[.string ⟨#[83, 73, 79]⟩, .string ⟨#[83, 73, 78]⟩, .string ⟨#[83, 73, 69]⟩, .string ⟨#[83, 73, 79, 83]⟩, .string ⟨#[83, 73, 80, 79]⟩, .string ⟨#[83, 73, 66]⟩] 9)
  unfold World.cell?
  rw [h]
  have : j = 0 ∨ j = 1 ∨ j = 2 ∨ j = 3 ∨ j = 4 ∨ j = 5 := by omega
  rcases this with rfl | rfl | rfl | rfl | rfl | rfl <;> rfl

attribute [local go_sem ↓] ldS_def

set_option maxRecDepth 100000 in
set_option maxHeartbeats 2000000 in
theorem same_no (b f : Int) (p q : Bool) (k s : Int) (wd : Bool) (ao : Option Addr) (m ca : Nat) (b' f' : Int) (p' q' : Bool) (k' s' : Int) (wd' : Bool) (bo : Option Addr) (n cb : Nat) (xs ys : List Int) (j : Nat) (w : World) (hlm : m ≤ 300) (hln : n ≤ 300) (hj : j ≤ 255) (hm : xs.length = m) (hn : ys.length = n) (hx : ∀ x ∈ xs, 0 ≤ x ∧ x ≤ 255) (hy : ∀ x ∈ ys, 0 ≤ x ∧ x ≤ 255) (ha : Reads w ao (xs.map (.int .u8))) (hb : Reads w bo (ys.map (.int .u8))) :
    Calls Try.prog 6 #[.agg #[.int .u8 b, .int .u8 f, .bool p, .bool q, .int .u8 k, .int .u8 s, .bool wd, .slice ao m ca], .agg #[.int .u8 b', .int .u8 f', .bool p', .bool q', .int .u8 k', .int .u8 s', .bool wd', .slice bo n cb], .bool false, .int .u8 j] w fun e w' => e = .returned (.bool true) ∧ Below w.heap.size w w' := by
  obtain ⟨hB0, hx1, hx2⟩ := two_boxes w (.cells #[.int .u8 b, .int .u8 f, .bool p, .bool q, .int .u8 k, .int .u8 s, .bool wd, .slice ao m ca] 24) (.cells #[.int .u8 b', .int .u8 f', .bool p', .bool q', .int .u8 k', .int .u8 s', .bool wd', .slice bo n cb] 24)
  have HM : Hid (xs.length = m) := hm
  have HN : Hid (ys.length = n) := hn
  have HX : Hid (∀ x ∈ xs, 0 ≤ x ∧ x ≤ 255) := hx
  have HY : Hid (∀ x ∈ ys, 0 ≤ x ∧ x ≤ 255) := hy
  clear hm hn hx hy
  by_cases hj6 : j < 6
  all_goals
    go_enter Try.func6, Try.ntmps6
    go_wp2_with fail
    refine (awake6_any _).mono ?_
    rintro e w1 ⟨rfl, hb1⟩
    have hx1' := block_keep hx1 hb1 (Nat.le_refl _)
    have hx2' := block_keep hx2 hb1 (Nat.le_refl _)
    obtain ⟨⟨-, -, -, -, -, -, -, c7⟩, -⟩ := unit_cells hx1'
    obtain ⟨⟨-, -, -, -, -, -, -, d7⟩, -⟩ := unit_cells hx2'
    have hB1 := hB0.trans (hb1.mono hB0.size)
    clear hx1 hx2 hB0 hb1
    try have hnc := names_cell w1 j hj6
    go_wp2_with fail
    obtain ⟨wA, hA⟩ : ∃ wA, wA = w1.alloc (.cells #[.string ⟨#[83, 73, 79]⟩, .string ⟨#[83, 73, 78]⟩, .string ⟨#[83, 73, 69]⟩, .string ⟨#[83, 73, 79, 83]⟩, .string ⟨#[83, 73, 80, 79]⟩, .string ⟨#[83, 73, 66]⟩] 9) := ⟨_, rfl⟩
    rw [← hA]
    have hb2 : Below w1.heap.size w1 wA := by rw [hA]; exact (Below.refl _ _).alloc (Nat.le_refl _) _
    have hBA := hB1.trans (hb2.mono hB1.size)
    have hxA1 := block_keep hx1' hb2 (Nat.le_refl _)
    have hxA2 := block_keep hx2' hb2 (Nat.le_refl _)
    have HC : Hid (∀ W, Below wA.heap.size wA W → (ldS (.pointer (some ⟨w.heap.size, 0, none⟩))).run Try.prog W = .ok (.agg #[.int .u8 b, .int .u8 f, .bool p, .bool q, .int .u8 k, .int .u8 s, .bool wd, .slice ao m ca]) W ∧ (ldS (.pointer (some ⟨w.heap.size + 1, 0, none⟩))).run Try.prog W = .ok (.agg #[.int .u8 b', .int .u8 f', .bool p', .bool q', .int .u8 k', .int .u8 s', .bool wd', .slice bo n cb]) W) := fun W hW => ⟨ld_unit (block_keep hxA1 hW (Nat.le_refl _)), ld_unit (block_keep hxA2 hW (Nat.le_refl _))⟩
    have hra0 := ha.below (Nat.le_refl _) hBA
    have hrb0 := hb.below (Nat.le_refl _) hBA
    have HRA : Hid (∀ W, Below wA.heap.size wA W → Reads W ao (xs.map (.int .u8))) := fun W hW => hra0.below (Nat.le_refl _) hW
    have HRB : Hid (∀ W, Below wA.heap.size wA W → Reads W bo (ys.map (.int .u8))) := fun W hW => hrb0.below (Nat.le_refl _) hW
    obtain ⟨R, hR⟩ : ∃ R, decide (b = b' ∧ f = f' ∧ p = p' ∧ q = q' ∧ k = k' ∧ s = s' ∧ wd = wd' ∧ xs = ys) = R := ⟨_, rfl⟩
    have HR : Hid (decide (b = b' ∧ f = f' ∧ p = p' ∧ q = q' ∧ k = k' ∧ s = s' ∧ wd = wd' ∧ xs = ys) = R) := hR
    have hBd : Below wA.heap.size wA wA.drew := (Below.refl _ _).drew
    have hname : ∀ W, Calls Try.prog 19 #[.int .u8 j] W fun e w' => e = .returned (.string ⟨(nam j).toArray⟩) ∧ w' = W := fun W => name_any j W (by omega) (by omega)
    clear hA hb2 hB1 hx1' hx2' hxA1 hxA2 c7 d7 hra0 hrb0 hR ha hb
    try clear hnc
    go_region_held (fun W => (ldS (.pointer (some ⟨w.heap.size, 0, none⟩))).run Try.prog W = .ok (.agg #[.int .u8 b, .int .u8 f, .bool p, .bool q, .int .u8 k, .int .u8 s, .bool wd, .slice ao m ca]) W ∧ (ldS (.pointer (some ⟨w.heap.size + 1, 0, none⟩))).run Try.prog W = .ok (.agg #[.int .u8 b', .int .u8 f', .bool p', .bool q', .int .u8 k', .int .u8 s', .bool wd', .slice bo n cb]) W) ((refine HC.out _ ?_; assumption)) (first
      | (go_at_call 17; have hB4 := hB4; refine (usame_any b f p q k s wd ao m ca xs b f p q k s wd ao m ca xs true _ (by simp) HM.out HM.out HX.out HX.out (HRA.out _ hB4) (HRA.out _ hB4)).mono ?_; rintro e w5 ⟨rfl, hb5⟩; have hB5 := hB4.trans (hb5.mono hB4.size))
      | (go_at_call 17; refine (usame_any b f p q k s wd ao m ca xs b' f' p' q' k' s' wd' bo n cb ys R _ HR.out HM.out HN.out HX.out HY.out (HRA.out _ hBd) (HRB.out _ hBd)).mono ?_; rintro e w3 ⟨rfl, hb3⟩; have hB3 := hBd.trans (hb3.mono hBd.size))
      | (go_at_call 15; refine (rsame6_any b f p q k s wd ao m ca xs b' f' p' q' k' s' wd' bo n cb ys R _ HR.out HM.out HN.out HX.out HY.out (HRA.out _ hB3) (HRB.out _ hB3)).mono ?_; rintro e w4 ⟨rfl, hb4⟩; have hB4 := hB3.trans (hb4.mono hB3.size))
      | (go_at_call 19; refine (hname _).mono ?_; rintro e w6 ⟨rfl, rfl⟩))
    go_wp2
    go_ret
    exact ⟨ret_bool (by first | (rw [nam_none (by omega)]; rfl) | simp), hBA.trans (hB5.mono hBA.size)⟩
end Go.Proofs.Ythkbfbjlkjfkiaa.Tape
