/- The walk of the law UnitRights. -/
import Derived.Test.YthkbfbjlkjfkiaaUnitReadsW
namespace Go.Proofs.Ythkbfbjlkjfkiaa.Tape
open Go.ChangeShapes Go.WideShapes Go.ChangeAt Go.RowKit

/-- A unit's cells written anew, one by one. -/
def put8 (w : World) (B : Nat) (c0 c1 c2 c3 c4 c5 c6 c7 : Value) : World :=
  (((((((w.setCell ⟨B, 0, none⟩ c0).setCell ⟨B, 1, none⟩ c1).setCell ⟨B, 2, none⟩ c2).setCell ⟨B, 3, none⟩ c3).setCell ⟨B, 4, none⟩ c4).setCell ⟨B, 5, none⟩ c5).setCell ⟨B, 6, none⟩ c6).setCell ⟨B, 7, none⟩ c7

theorem put8_box {w : World} {B : Nat} {d0 d1 d2 d3 d4 d5 d6 d7 : Value} {t : TypeId} (h : w.heap[B]? = some (.cells #[d0, d1, d2, d3, d4, d5, d6, d7] t (0, 0))) (c0 c1 c2 c3 c4 c5 c6 c7 : Value) :
    (put8 w B c0 c1 c2 c3 c4 c5 c6 c7).heap[B]? = some (.cells #[c0, c1, c2, c3, c4, c5, c6, c7] t (0, 0)) := by
  have h' : w.heap[B]? = some (.cells [d0, d1, d2, d3, d4, d5, d6, d7].toArray t (0, 0)) := h
  exact row_set (row_set (row_set (row_set (row_set (row_set (row_set (row_set h' 0 c0) 1 c1) 2 c2) 3 c3) 4 c4) 5 c5) 6 c6) 7 c7

theorem put8_below {w0 w : World} {base B : Nat} (h : Below base w0 w) (hB : base ≤ B) (c0 c1 c2 c3 c4 c5 c6 c7 : Value) : Below base w0 (put8 w B c0 c1 c2 c3 c4 c5 c6 c7) :=
  (((((((h.setCell hB c0).setCell hB c1).setCell hB c2).setCell hB c3).setCell hB c4).setCell hB c5).setCell hB c6).setCell hB c7

/-- The law's Encode, of whatever unit. -/
theorem encode_any (b f : Int) (p q : Bool) (k s : Int) (wd : Bool) (ao : Option Addr) (n cap R : Nat) (xs : List Int) (w : World) (hb0 : 0 ≤ b) (hf0 : 0 ≤ f) (hk0 : 0 ≤ k) (hR : rgt b f k s n = R) (hn : xs.length = n) (hl : n ≤ 1000) (hr : Reads w ao (xs.map (.int .u8))) (hnil : ao = none → cap = 0) :
    Calls Try.prog 10 #[.agg #[.int .u8 b, .int .u8 f, .bool p, .bool q, .int .u8 k, .int .u8 s, .bool wd, .slice ao n cap]] w fun e w' => ∃ vo m ca, e = .returned (.tuple #[.slice vo m ca, .int .i64 R]) ∧ (R ≠ 0 → m = 0) ∧ Below w.heap.size w w' := by
  by_cases h0 : R = 0
  · subst h0
    have hw := rgt_ways b f k s n hk0
    rw [hR] at hw
    refine (encode_ok b f p q k s wd ao n cap xs w hb0 hf0 hk0 (by omega) (by omega) (by omega) hR hn hl hr hnil).mono ?_
    rintro e w' ⟨v, rfl, hown, hb⟩
    obtain ⟨vo, ca, rfl, -⟩ := owns_form hown
    exact ⟨_, _, _, rfl, fun h => (h rfl).elim, hb⟩
  · refine (encode_err b f p q k s wd ao n cap R w hk0 hR h0).mono ?_
    rintro e w' ⟨rfl, hb⟩
    exact ⟨_, _, _, rfl, fun _ => rfl, hb⟩

/-- near, of whatever unit: some unit that has the same Info. -/
theorem near_any (b f : Int) (p q : Bool) (k s : Int) (wd : Bool) (ao : Option Addr) (n cap : Nat) (h : Int) (w : World) (hb : 0 ≤ b) (hf : 0 ≤ f) (hk : 0 ≤ k) (hs : 0 ≤ s) :
    Calls Try.prog 9 #[.agg #[.int .u8 b, .int .u8 f, .bool p, .bool q, .int .u8 k, .int .u8 s, .bool wd, .slice ao n cap], .int .u8 h] w fun e w' =>
      ∃ b' f' k' s' : Int, e = .returned (.agg #[.int .u8 b', .int .u8 f', .bool p, .bool q, .int .u8 k', .int .u8 s', .bool wd, .slice ao n cap]) ∧ 0 ≤ b' ∧ 0 ≤ f' ∧ 0 ≤ k' ∧ 0 ≤ s' ∧ Below w.heap.size w w' := by
  by_cases hh : h < 64
  · refine (near_no b f p q k s wd ao n cap h w hh).mono ?_
    rintro e w' ⟨rfl, hB⟩
    exact ⟨_, _, _, _, rfl, hb, hf, hk, hs, hB⟩
  · refine (near_yes b f p q k s wd ao n cap h w (by omega) hb hf hk hs).mono ?_
    rintro e w' ⟨rfl, hB⟩
    exact ⟨_, _, _, _, rfl, by omega, by omega, by omega, by omega, hB⟩

set_option maxRecDepth 100000 in
set_option maxHeartbeats 1000000 in
theorem rights_long (b f : Int) (p q : Bool) (k s : Int) (wd : Bool) (ao : Option Addr) (n cap : Nat) (h : Int) (w : World) (hl : 400 < n) (hm : n ≤ maxLen) :
    Calls Try.prog 3 #[.agg #[.int .u8 b, .int .u8 f, .bool p, .bool q, .int .u8 k, .int .u8 s, .bool wd, .slice ao n cap], .int .u8 h] w fun e w' => e = .returned (.bool true) ∧ Below w.heap.size w w' := by
  unfold maxLen at hm
  have hB0 : Below w.heap.size w (w.alloc (.cells #[.int .u8 b, .int .u8 f, .bool p, .bool q, .int .u8 k, .int .u8 s, .bool wd, .slice ao n cap] 24)) := (Below.refl _ _).alloc (Nat.le_refl _) _
  have hbox := heap_alloc_new w (.cells #[.int .u8 b, .int .u8 f, .bool p, .bool q, .int .u8 k, .int .u8 s, .bool wd, .slice ao n cap] 24)
  go_enter Try.func3, Try.ntmps3
  go_wp2_with fail
  refine (awake6_any _).mono ?_
  rintro e w1 ⟨rfl, hb1⟩
  obtain ⟨⟨-, -, -, -, -, -, -, c7⟩, -⟩ := unit_cells (block_keep hbox hb1 (Nat.le_refl _))
  have hB1 := hB0.trans (hb1.mono hB0.size)
  clear hbox hB0 hb1
  go_wp2_with fail
  refine (awake6_any _).mono ?_
  rintro e w2 ⟨rfl, hb2⟩
  go_wp2
  go_ret
  exact ⟨rfl, hB1.trans (hb2.mono hB1.size)⟩

set_option maxRecDepth 100000 in
set_option maxHeartbeats 2000000 in
theorem rights_short (b f : Int) (p q : Bool) (k s : Int) (wd : Bool) (ao : Option Addr) (n cap : Nat) (xs : List Int) (h : Int) (w : World) (hl : n ≤ 400) (hb : 0 ≤ b) (hf : 0 ≤ f) (hk : 0 ≤ k) (hs : 0 ≤ s) (hn : xs.length = n) (hnil : ao = none → cap = 0) (hr : Reads w ao (xs.map (.int .u8))) :
    Calls Try.prog 3 #[.agg #[.int .u8 b, .int .u8 f, .bool p, .bool q, .int .u8 k, .int .u8 s, .bool wd, .slice ao n cap], .int .u8 h] w fun e w' => e = .returned (.bool true) ∧ Below w.heap.size w w' := by
  have hB0 : Below w.heap.size w (w.alloc (.cells #[.int .u8 b, .int .u8 f, .bool p, .bool q, .int .u8 k, .int .u8 s, .bool wd, .slice ao n cap] 24)) := (Below.refl _ _).alloc (Nat.le_refl _) _
  have hbox := heap_alloc_new w (.cells #[.int .u8 b, .int .u8 f, .bool p, .bool q, .int .u8 k, .int .u8 s, .bool wd, .slice ao n cap] 24)
  have HN : Hid (xs.length = n) := hn
  clear hn
  go_enter Try.func3, Try.ntmps3
  go_wp2_with fail
  refine (awake6_any _).mono ?_
  rintro e w1 ⟨rfl, hb1⟩
  have hbox1 := block_keep hbox hb1 (Nat.le_refl _)
  obtain ⟨⟨c0, c1, c2, c3, c4, c5, c6, c7⟩, -⟩ := unit_cells hbox1
  have hB1 := hB0.trans (hb1.mono hB0.size)
  clear hbox hB0 hb1
  go_wp2_with fail
  refine (near_any _ _ _ _ _ _ _ _ _ _ _ _ hb hf hk hs).mono ?_
  rintro e w2 ⟨b', f', k', s', rfl, hb0, hf0, hk0, hs0, hb2⟩
  have hbox2 := block_keep hbox1 hb2 (Nat.le_refl _)
  have hB2 := hB1.trans (hb2.mono hB1.size)
  clear c0 c1 c2 c3 c4 c5 c6 c7
  obtain ⟨⟨c0, c1, c2, c3, c4, c5, c6, c7⟩, ff⟩ := unit_cells hbox2
  have f0 := ff 0
  have f1 := ff 1
  have f2 := ff 2
  have f3 := ff 3
  have f4 := ff 4
  have f5 := ff 5
  have f6 := ff 6
  have f7 := ff 7
  clear hb hf hk hs hbox1 hb2 hB1 ff
  go_wp2_with fail
  obtain ⟨W, hW⟩ : ∃ W, W = put8 w2 w.heap.size (.int .u8 b') (.int .u8 f') (.bool p) (.bool q) (.int .u8 k') (.int .u8 s') (.bool wd) (.slice ao n cap) := ⟨_, rfl⟩
  have hboxW : W.heap[w.heap.size]? = some (.cells #[.int .u8 b', .int .u8 f', .bool p, .bool q, .int .u8 k', .int .u8 s', .bool wd, .slice ao n cap] 24 (0, 0)) := by rw [hW]; exact put8_box hbox2 _ _ _ _ _ _ _ _
  have hBW : Below w.heap.size w W := by rw [hW]; exact put8_below hB2 (Nat.le_refl _) _ _ _ _ _ _ _ _
  unfold put8 at hW
  rw [← hW]
  clear hW hbox2 hB2 c0 c1 c2 c3 c4 c5 c6 c7 f0 f1 f2 f3 f4 f5 f6 f7
  obtain ⟨R, hR⟩ : ∃ R, rgt b' f' k' s' n = R := ⟨_, rfl⟩
  have HR : Hid (rgt b' f' k' s' n = R) := hR
  refine (encode_any b' f' p q k' s' wd ao n cap R xs W hb0 hf0 hk0 hR HN.out (by omega) (hr.below (Nat.le_refl _) hBW) hnil).mono ?_
  rintro e w3 ⟨vo, m, ca, rfl, hm, hb3⟩
  have hbox3 := block_keep hboxW hb3 (Nat.le_refl _)
  have hB3 := hBW.trans (hb3.mono hBW.size)
  clear hR hboxW hBW hb3 hr
  obtain ⟨⟨c0, c1, c2, c3, c4, c5, c6, c7⟩, -⟩ := unit_cells hbox3
  go_wp2_with fail
  refine (rright_any b' f' p q k' s' wd ao n cap R _ hk0 HR.out).mono ?_
  rintro e w4 ⟨rfl, hb4⟩
  have hbox4 := block_keep hbox3 hb4 (Nat.le_refl _)
  have hB4 := hB3.trans (hb4.mono hB3.size)
  clear hb4 hB3 hbox3 c0 c1 c2 c3 c4 c5 c6 c7
  obtain ⟨⟨c0, c1, c2, c3, c4, c5, c6, c7⟩, -⟩ := unit_cells hbox4
  go_wp2_with fail
  refine (uright_any b' f' p q k' s' wd ao n cap R _ hk0 HR.out).mono ?_
  rintro e w5 ⟨rfl, hb5⟩
  have hB5 := hB4.trans (hb5.mono hB4.size)
  clear hb5 hB4 hbox4 c0 c1 c2 c3 c4 c5 c6 c7
  by_cases h0 : R = 0
  · subst h0
    go_wp2
    go_ret
    exact ⟨rfl, hB5⟩
  · obtain rfl := hm h0
    have n0 : ((R : Int) == 0) = false := by rw [beq_eq_false_iff_ne]; omega
    go_wp2
    go_ret
    exact ⟨rfl, hB5⟩

theorem rights_walk (v : Value) (h : Int) (w : World) (hv : IsUnit w v) :
    Calls Try.prog 3 #[v, .int .u8 h] w fun e w' => e = .returned (.bool true) ∧ Below w.heap.size w w' := by
  obtain ⟨b, f, p, q, k, s, wd, ao, n, cap, xs, rfl, hb, hf, hk, hs, hn, hc, hm, hnil, hr, hx⟩ := hv
  by_cases hl : 400 < n
  · exact rights_long b f p q k s wd ao n cap h w hl (Nat.le_trans hc hm)
  · exact rights_short b f p q k s wd ao n cap xs h w (by omega) hb.1 hf.1 hk.1 hs.1 hn hnil hr
end Go.Proofs.Ythkbfbjlkjfkiaa.Tape
