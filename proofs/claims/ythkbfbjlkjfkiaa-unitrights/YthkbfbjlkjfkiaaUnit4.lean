/- The contract of unit's Encode. -/
import Derived.Test.YthkbfbjlkjfkiaaUnit3
import Derived.Deep.RegionHeld3
import Derived.Deep.AppendLies
import Derived.Deep.DrawnRows
namespace Go.Proofs.Ythkbfbjlkjfkiaa.Tape
open Go.ChangeShapes Go.WideShapes Go.ChangeAt Go.RowKit
attribute [local go_sem ↓] Go.wp_at_zero Go.wp_at_succ

/-- A unit's octets. -/
def enc (b f : Int) (p q : Bool) (k s : Int) (wd : Bool) (xs : List Int) : List Int := hdo b p :: hdo f q :: ((min (bod k s wd xs).length 63 : Nat) : Int) :: bod k s wd xs

theorem cells_three (w : World) (x y z : Int) (j : Nat) (u : Value) (hj : [Value.int .u8 x, .int .u8 y, .int .u8 z][j]? = some u) : (w.alloc (.cells #[.int .u8 x, .int .u8 y, .int .u8 z] 5)).drew.cell? ((⟨w.heap.size, 0, none⟩ : Addr).add j) = some u :=
  (reads_lit w [x, y, z] (0, 0)).at j u hj

/-- Behind an append in a drawn region nothing below B has turned. -/
theorem below_append {B e n : Nat} {wr w1 : World} {v : Value} {xs : List Value} {o : Obj} (hown : wr.ownsRow B e 1 v n xs) (hB : B ≤ wr.heap.size) (hgrow : (wr.alloc o).drew.grownBy w1 v.ownBlock) : Below B wr w1 :=
  ((((Below.refl B wr).alloc hB o).drew).grown hgrow (by simp; omega) (fun k hk => (hown.lt k hk).1))

theorem bod_len (k s : Int) (wd : Bool) (xs : List Int) (h : xs.length ≤ 1000) : (bod k s wd xs).length ≤ 1000 := by
  unfold bod
  split
  · exact h
  · split
    · split <;> simp
    · simp

/-- The cells of a unit that lies in a block of its own. -/
theorem unit_cells {w : World} {B : Nat} {c0 c1 c2 c3 c4 c5 c6 c7 : Value} (h : w.heap[B]? = some (.cells #[c0, c1, c2, c3, c4, c5, c6, c7] 24 (0, 0))) :
    (w.cell? ⟨B, 0, none⟩ = some c0 ∧ w.cell? ⟨B, 1, none⟩ = some c1 ∧ w.cell? ⟨B, 2, none⟩ = some c2 ∧ w.cell? ⟨B, 3, none⟩ = some c3 ∧ w.cell? ⟨B, 4, none⟩ = some c4 ∧ w.cell? ⟨B, 5, none⟩ = some c5 ∧ w.cell? ⟨B, 6, none⟩ = some c6 ∧ w.cell? ⟨B, 7, none⟩ = some c7) ∧ ∀ i, w.frozen? ⟨B, i, none⟩ = false :=
  ⟨⟨by rw [Lib.cell_of_heap h]; rfl, by rw [Lib.cell_of_heap h]; rfl, by rw [Lib.cell_of_heap h]; rfl, by rw [Lib.cell_of_heap h]; rfl, by rw [Lib.cell_of_heap h]; rfl, by rw [Lib.cell_of_heap h]; rfl, by rw [Lib.cell_of_heap h]; rfl, by rw [Lib.cell_of_heap h]; rfl⟩, fun i => Lib.frozen_of_heap h i⟩
theorem block_keep {w w' : World} {B B' : Nat} {x : Obj} (h : w.heap[B]? = some x) (hb : Below B' w w') (hB : w.heap.size ≤ B') : w'.heap[B]? = some x := by
  rw [hb.block B (Nat.lt_of_lt_of_le (heap_lt h) hB)]; exact h

set_option maxRecDepth 100000 in
set_option maxHeartbeats 1000000 in
theorem encode_err (b f : Int) (p q : Bool) (k s : Int) (wd : Bool) (ao : Option Addr) (n cap R : Nat) (w : World) (hk0 : 0 ≤ k) (hR : rgt b f k s n = R) (h0 : R ≠ 0) :
    Calls Try.prog 10 #[.agg #[.int .u8 b, .int .u8 f, .bool p, .bool q, .int .u8 k, .int .u8 s, .bool wd, .slice ao n cap]] w fun e w' => e = .returned (.tuple #[.slice none 0 0, .int .i64 R]) ∧ Below w.heap.size w w' := by
  have hr1 : ((R : Int) != 0) = true := by rw [bne_iff_ne]; omega
  have hB0 : Below w.heap.size w (w.alloc (.cells #[.int .u8 b, .int .u8 f, .bool p, .bool q, .int .u8 k, .int .u8 s, .bool wd, .slice ao n cap] 24)) := (Below.refl _ _).alloc (Nat.le_refl _) _
  go_enter Try.func10, Try.ntmps10
  go_wp2_with fail
  refine (uright_any _ _ _ _ _ _ _ _ _ _ R _ hk0 hR).mono ?_
  rintro e w1 ⟨rfl, hb1⟩
  have hB1 := hB0.trans (hb1.mono hB0.size)
  clear hb1 hB0 hR
  go_wp2
  go_ret2
  exact ⟨rfl, hB1⟩

set_option maxRecDepth 100000 in
set_option maxHeartbeats 2000000 in
theorem encode_ok (b f : Int) (p q : Bool) (k s : Int) (wd : Bool) (ao : Option Addr) (n cap : Nat) (xs : List Int) (w : World) (hb0 : 0 ≤ b) (hf0 : 0 ≤ f) (hk0 : 0 ≤ k) (hb127 : b ≤ 127) (hf127 : f ≤ 127) (hk : k = 0 ∨ k = 1 ∨ k = 2) (hR : rgt b f k s n = 0) (hn : xs.length = n) (hl : n ≤ 1000) (hr : Reads w ao (xs.map (.int .u8))) (hnil : ao = none → cap = 0) :
    Calls Try.prog 10 #[.agg #[.int .u8 b, .int .u8 f, .bool p, .bool q, .int .u8 k, .int .u8 s, .bool wd, .slice ao n cap]] w fun e w' => ∃ v, e = .returned (.tuple #[v, .int .i64 0]) ∧ w'.ownsRow w.heap.size 5 1 v (3 + (bod k s wd xs).length) ((enc b f p q k s wd xs).map (.int .u8)) ∧ Below w.heap.size w w' := by
  obtain ⟨i0, hi, hz0, hz1, hz2⟩ := info_parts info5
  have hB0 : Below w.heap.size w (w.alloc (.cells #[.int .u8 b, .int .u8 f, .bool p, .bool q, .int .u8 k, .int .u8 s, .bool wd, .slice ao n cap] 24)) := (Below.refl _ _).alloc (Nat.le_refl _) _
  have hbox := heap_alloc_new w (.cells #[.int .u8 b, .int .u8 f, .bool p, .bool q, .int .u8 k, .int .u8 s, .bool wd, .slice ao n cap] 24)
  have hbl := bod_len k s wd xs (by omega)
  go_enter Try.func10, Try.ntmps10
  go_wp2_with fail
  refine (uright_any _ _ _ _ _ _ _ _ _ _ 0 _ hk0 hR).mono ?_
  rintro e w1 ⟨rfl, hb1⟩
  have hB1 := hB0.trans (hb1.mono hB0.size)
  have hbox1 := block_keep hbox hb1 (Nat.le_refl _)
  obtain ⟨⟨c0, c1, c2, c3, c4, c5, c6, c7⟩, -⟩ := unit_cells hbox1
  clear hb1 hB0 hR hbox
  have hr1 := hr.below (Nat.le_refl _) hB1
  go_wp2_with fail
  refine (body_any _ _ _ _ _ _ _ _ _ _ xs _ hk hn hr1 hnil).mono ?_
  rintro e w2 ⟨vo, m, ca, rfl, hm, hr2, hvn, hb2⟩
  have hB2 := hB1.trans (hb2.mono hB1.size)
  have hbox2 := block_keep hbox1 hb2 (Nat.le_refl _)
  clear c0 c1 c2 c3 c4 c5 c6 c7 hr hr1 hb2 hbox1
  obtain ⟨⟨c0, c1, c2, c3, -⟩, -⟩ := unit_cells hbox2
  have hsz2 := hB2.size
  rw [hm] at hbl
  obtain ⟨L, hL⟩ : ∃ L : Int, L = ((min m 63 : Nat) : Int) := ⟨_, rfl⟩
  obtain ⟨H1, hH1⟩ : ∃ H1 : Int, H1 = hdo b p := ⟨_, rfl⟩
  obtain ⟨H2, hH2⟩ : ∃ H2 : Int, H2 = hdo f q := ⟨_, rfl⟩
  have hE : Hid ((enc b f p q k s wd xs).map (Value.int .u8) = [.int .u8 H1, .int .u8 H2, .int .u8 L] ++ (bod k s wd xs).map (.int .u8)) := by
    show _ = _
    rw [hH1, hH2, hL, ← hm]; rfl
  have hj1 : ∀ W, Calls Try.prog 21 #[.int .u8 b, .bool p] W fun e w' => e = .returned (.int .u8 H1) ∧ w' = W := fun W => by rw [hH1]; exact join_any b p W hb0 hb127
  have hj2 : ∀ W, Calls Try.prog 21 #[.int .u8 f, .bool q] W fun e w' => e = .returned (.int .u8 H2) ∧ w' = W := fun W => by rw [hH2]; exact join_any f q W hf0 hf127
  have hj3 : ∀ W, Calls Try.prog 22 #[.int .i64 m] W fun e w' => e = .returned (.int .u8 L) ∧ w' = W := fun W => by rw [hL]; exact length_any m W (by omega)
  have HM : Hid ((bod k s wd xs).length = m) := hm
  have HR2 : Hid (Reads w2 vo ((bod k s wd xs).map (.int .u8))) := hr2
  clear hL hH1 hH2 hm hr2 hk hn c0 c1 c2 c3
  go_wp2_with (at_make; refine wpList_make_own _ rfl _ _ 22 rfl w2.heap.size 5 i0 (.int .u8 0) 1 Try.underlying22 hi hz0 hz1 _ _ _ (3 + m) rfl rfl (by omega) (by rw [hz2]; omega) (by unfold maxLen; omega) (Nat.le_refl _) ?_; intro w3 hown3 hgrow3)
  have hb3 : Below w2.heap.size w2 w3 := (Below.refl _ _).grown hgrow3 (Nat.le_refl _) (by simp)
  have hB3 := hB2.trans (hb3.mono hsz2)
  have hbox3 := block_keep hbox2 hb3 (Nat.le_refl _)
  have hsz3 := hb3.size
  obtain ⟨⟨c0, c1, c2, c3, -⟩, -⟩ := unit_cells hbox3
  have hlt2 := heap_lt hbox2
  clear hbox2 hbox3 hgrow3
  go_region_held3 (fun W => W.cell? ⟨w.heap.size, 0, none⟩ = some (.int .u8 b) ∧ W.cell? ⟨w.heap.size, 1, none⟩ = some (.int .u8 f) ∧ W.cell? ⟨w.heap.size, 2, none⟩ = some (.bool p) ∧ W.cell? ⟨w.heap.size, 3, none⟩ = some (.bool q)) (first | go_keep | exact ⟨c0, c1, c2, c3⟩ | exact ⟨d0, d1, d2, d3⟩) (first
    | (go_at_call 21; refine (hj1 _).mono ?_; rintro e w' ⟨rfl, hw'⟩; obtain rfl := hw'.symm; clear hw')
    | (go_at_call 21; refine (hj2 _).mono ?_; rintro e w' ⟨rfl, hw'⟩; obtain rfl := hw'.symm; clear hw')
    | (go_at_call 22; refine (hj3 _).mono ?_; rintro e w' ⟨rfl, hw'⟩; obtain rfl := hw'.symm; clear hw')
    | (refine step_append_lies _ (by rfl) _ _ 22 (by rfl) w2.heap.size 5 i0 (.int .u8 0) 1 1 Try.underlying22 hi hz0 hz1 hz2 (by rfl) (by decide) (.slice (some ⟨w2.heap.size, 0, none⟩) 0 (3 + m)) 0 [] (by rfl) (by exact (hown3.alloc _).drew) ⟨w3.heap.size, 0, none⟩ 3 3 [.int .u8 H1, .int .u8 H2, .int .u8 L] (by rfl) (by rfl) (by intro j u hj; exact cells_three _ _ _ _ j u hj) (by simp [Value.oneCell']) (by decide) (by unfold maxLen; omega) (by omega) (by simp; omega) (w3.heap.size + 1) (by simp) ?_; intro g' cap' w4 hown4 hgrow4 hat4 hlt4; have hbl4 := below_append hown3 hsz3 hgrow4; have d0 := (hbl4.cell (p := ⟨w.heap.size, 0, none⟩) hlt2).trans c0; have d1 := (hbl4.cell (p := ⟨w.heap.size, 1, none⟩) hlt2).trans c1; have d2 := (hbl4.cell (p := ⟨w.heap.size, 2, none⟩) hlt2).trans c2; have d3 := (hbl4.cell (p := ⟨w.heap.size, 3, none⟩) hlt2).trans c3))
  rw [Nat.zero_add, List.nil_append] at hown4
  have hr4 := HR2.out.below (Nat.le_refl _) (hb3.trans hbl4)
  have hB4 := hB3.trans (hbl4.mono hsz2)
  have hsz4 := hbl4.size
  clear c0 c1 c2 c3 d0 d1 d2 d3 hj1 hj2 hj3 hown3 hgrow4
  go_wp2_with (at_builtin; refine append_reads rfl _ _ rfl w2.heap.size _ 3 _ rfl hown4 vo m ca (bod k s wd xs) rfl HM.out hr4 hvn (by omega) (by omega) ?_; intro v5 w5 hown5 hb5)
  rw [← hE.out] at hown5
  go_wp2
  go_ret2
  exact ⟨_, rfl, by rw [HM.out]; exact owns_lower hown5 hsz2, hB4.trans (hb5.mono hsz2)⟩
end Go.Proofs.Ythkbfbjlkjfkiaa.Tape
