/- The contract of the reference's Decode. -/
import Derived.Test.YthkbfbjlkjfkiaaUnit7
namespace Go.Proofs.Ythkbfbjlkjfkiaa.Tape
open Go.ChangeShapes Go.WideShapes Go.ChangeAt Go.RowKit

set_option maxRecDepth 100000 in
set_option maxHeartbeats 1000000 in
theorem rdecode_short (ao : Option Addr) (n cap : Nat) (w : World) (h : n < 3) :
    Calls Try.prog 18 #[.slice ao n cap] w fun e w' => e = .returned (.tuple #[.agg #[.int .u8 0, .int .u8 0, .bool false, .bool false, .int .u8 0, .int .u8 0, .bool false, .slice none 0 0], .int .i64 5]) ∧ Below w.heap.size w w' := by
  go_enter Try.func18, Try.ntmps18
  go_wp2
  refine bodyPost_ret (v := .tuple #[.agg #[.int .u8 0, .int .u8 0, .bool false, .bool false, .int .u8 0, .int .u8 0, .bool false, .slice none 0 0], .int .i64 5]) (by simp [results, Try.results18, go_sem]) rfl ⟨rfl, ((Below.refl _ _).alloc (Nat.le_refl _) _).alloc (by simp) _⟩

set_option maxRecDepth 100000 in
set_option maxHeartbeats 1000000 in
theorem rdecode_long (ao : Option Addr) (n cap : Nat) (w : World) (h : 276 < n) :
    Calls Try.prog 18 #[.slice ao n cap] w fun e w' => e = .returned (.tuple #[.agg #[.int .u8 0, .int .u8 0, .bool false, .bool false, .int .u8 0, .int .u8 0, .bool false, .slice none 0 0], .int .i64 6]) ∧ Below w.heap.size w w' := by
  go_enter Try.func18, Try.ntmps18
  go_wp2
  refine bodyPost_ret (v := .tuple #[.agg #[.int .u8 0, .int .u8 0, .bool false, .bool false, .int .u8 0, .int .u8 0, .bool false, .slice none 0 0], .int .i64 6]) (by simp [results, Try.results18, go_sem]) rfl ⟨rfl, ((Below.refl _ _).alloc (Nat.le_refl _) _).alloc (by simp) _⟩

set_option maxRecDepth 100000 in
set_option maxHeartbeats 1000000 in
theorem rdecode_form (g off n cap m : Nat) (x2 L : Int) (w : World) (hnm : n = m + 3) (hl : n ≤ 276) (h0 : 0 ≤ x2) (h1 : x2 ≤ 255) (hL : L = ((min m 63 : Nat) : Int)) (hx : x2 % 64 ≠ L) (hc : w.cell? ⟨g, off + 2, none⟩ = some (.int .u8 x2)) :
    Calls Try.prog 18 #[.slice (some ⟨g, off, none⟩) n cap] w fun e w' => e = .returned (.tuple #[.agg #[.int .u8 0, .int .u8 0, .bool false, .bool false, .int .u8 0, .int .u8 0, .bool false, .slice none 0 0], .int .i64 4]) ∧ Below w.heap.size w w' := by
  have hlt : g < w.heap.size := World.block_lt_of_cell? w ⟨g, off + 2, none⟩ hc
  have e1 : (n : Int) - 3 = (m : Int) := by omega
  have l1 : 3 ≤ n := by omega
  by_cases h63 : 63 < m
  · have hne : (x2 % 64 != 63) = true := by rw [bne_iff_ne]; omega
    clear hnm hx hL
    go_enter Try.func18, Try.ntmps18
    go_wp2
    refine bodyPost_ret (v := .tuple #[.agg #[.int .u8 0, .int .u8 0, .bool false, .bool false, .int .u8 0, .int .u8 0, .bool false, .slice none 0 0], .int .i64 4]) (by simp [results, Try.results18, go_sem]) rfl ⟨rfl, ((Below.refl _ _).alloc (Nat.le_refl _) _).alloc (by simp) _⟩
  · have hne : (x2 % 64 != (m : Int)) = true := by rw [bne_iff_ne]; omega
    clear hnm hx hL
    go_enter Try.func18, Try.ntmps18
    go_wp2
    refine bodyPost_ret (v := .tuple #[.agg #[.int .u8 0, .int .u8 0, .bool false, .bool false, .int .u8 0, .int .u8 0, .bool false, .slice none 0 0], .int .i64 4]) (by simp [results, Try.results18, go_sem]) rfl ⟨rfl, ((Below.refl _ _).alloc (Nat.le_refl _) _).alloc (by simp) _⟩

set_option maxRecDepth 100000 in
set_option maxHeartbeats 1000000 in
theorem rdecode_fill (g off cap : Nat) (x0 x1 x2 : Int) (w : World) (_hcap : 3 ≤ cap) (h0 : 0 ≤ x0) (h0' : x0 ≤ 255) (h1 : 0 ≤ x1) (h1' : x1 ≤ 255) (h2 : 0 ≤ x2) (h2' : x2 ≤ 255) (hx : x2 % 64 = 0)
    (c0 : w.cell? ⟨g, off, none⟩ = some (.int .u8 x0)) (c1 : w.cell? ⟨g, off + 1, none⟩ = some (.int .u8 x1)) (c2 : w.cell? ⟨g, off + 2, none⟩ = some (.int .u8 x2)) :
    Calls Try.prog 18 #[.slice (some ⟨g, off, none⟩) 3 cap] w fun e w' => e = .returned (.tuple #[.agg #[.int .u8 (x0 % 128), .int .u8 (x1 % 128), .bool (decide (128 ≤ x0)), .bool (decide (128 ≤ x1)), .int .u8 0, .int .u8 0, .bool false, .slice none 0 0], .int .i64 0]) ∧ Below w.heap.size w w' := by
  have hlt : g < w.heap.size := World.block_lt_of_cell? w ⟨g, off, none⟩ c0
  go_enter Try.func18, Try.ntmps18
  go_wp2
  all_goals refine bodyPost_ret (v := .tuple #[.agg #[.int .u8 (x0 % 128), .int .u8 (x1 % 128), .bool (decide (128 ≤ x0)), .bool (decide (128 ≤ x1)), .int .u8 0, .int .u8 0, .bool false, .slice none 0 0], .int .i64 0]) (by simp [results, Try.results18, go_sem] <;> omega) rfl ⟨rfl, ((Below.refl _ _).alloc (Nat.le_refl _) _).alloc (by simp) _⟩

set_option maxRecDepth 100000 in
set_option maxHeartbeats 1000000 in
theorem rdecode_one (g off cap : Nat) (x0 x1 x2 x3 : Int) (w : World) (_hcap : 4 ≤ cap) (h0 : 0 ≤ x0) (h0' : x0 ≤ 255) (h1 : 0 ≤ x1) (h1' : x1 ≤ 255) (h2 : 0 ≤ x2) (h2' : x2 ≤ 255) (h3 : 0 ≤ x3) (h3' : x3 ≤ 255) (hx : x2 % 64 = 1)
    (c0 : w.cell? ⟨g, off, none⟩ = some (.int .u8 x0)) (c1 : w.cell? ⟨g, off + 1, none⟩ = some (.int .u8 x1)) (c2 : w.cell? ⟨g, off + 2, none⟩ = some (.int .u8 x2)) (c3 : w.cell? ⟨g, off + 3, none⟩ = some (.int .u8 x3)) :
    Calls Try.prog 18 #[.slice (some ⟨g, off, none⟩) 4 cap] w fun e w' => e = .returned (.tuple #[.agg #[.int .u8 (x0 % 128), .int .u8 (x1 % 128), .bool (decide (128 ≤ x0)), .bool (decide (128 ≤ x1)), .int .u8 1, .int .u8 (x3 % 8), .bool false, .slice none 0 0], .int .i64 0]) ∧ Below w.heap.size w w' := by
  have hlt : g < w.heap.size := World.block_lt_of_cell? w ⟨g, off, none⟩ c0
  go_enter Try.func18, Try.ntmps18
  go_wp2
  all_goals refine bodyPost_ret (v := .tuple #[.agg #[.int .u8 (x0 % 128), .int .u8 (x1 % 128), .bool (decide (128 ≤ x0)), .bool (decide (128 ≤ x1)), .int .u8 1, .int .u8 (x3 % 8), .bool false, .slice none 0 0], .int .i64 0]) (by simp [results, Try.results18, go_sem] <;> omega) rfl ⟨rfl, ((Below.refl _ _).alloc (Nat.le_refl _) _).alloc (by simp) _⟩

set_option maxRecDepth 100000 in
set_option maxHeartbeats 1000000 in
theorem rdecode_two (g off cap : Nat) (x0 x1 x2 x3 : Int) (w : World) (_hcap : 5 ≤ cap) (h0 : 0 ≤ x0) (h0' : x0 ≤ 255) (h1 : 0 ≤ x1) (h1' : x1 ≤ 255) (h2 : 0 ≤ x2) (h2' : x2 ≤ 255) (h3 : 0 ≤ x3) (h3' : x3 ≤ 255) (hx : x2 % 64 = 2)
    (c0 : w.cell? ⟨g, off, none⟩ = some (.int .u8 x0)) (c1 : w.cell? ⟨g, off + 1, none⟩ = some (.int .u8 x1)) (c2 : w.cell? ⟨g, off + 2, none⟩ = some (.int .u8 x2)) (c3 : w.cell? ⟨g, off + 3, none⟩ = some (.int .u8 x3)) :
    Calls Try.prog 18 #[.slice (some ⟨g, off, none⟩) 5 cap] w fun e w' => e = .returned (.tuple #[.agg #[.int .u8 (x0 % 128), .int .u8 (x1 % 128), .bool (decide (128 ≤ x0)), .bool (decide (128 ≤ x1)), .int .u8 1, .int .u8 (x3 % 8), .bool true, .slice none 0 0], .int .i64 0]) ∧ Below w.heap.size w w' := by
  have hlt : g < w.heap.size := World.block_lt_of_cell? w ⟨g, off, none⟩ c0
  go_enter Try.func18, Try.ntmps18
  go_wp2
  all_goals refine bodyPost_ret (v := .tuple #[.agg #[.int .u8 (x0 % 128), .int .u8 (x1 % 128), .bool (decide (128 ≤ x0)), .bool (decide (128 ≤ x1)), .int .u8 1, .int .u8 (x3 % 8), .bool true, .slice none 0 0], .int .i64 0]) (by simp [results, Try.results18, go_sem] <;> omega) rfl ⟨rfl, ((Below.refl _ _).alloc (Nat.le_refl _) _).alloc (by simp) _⟩

set_option maxRecDepth 100000 in
set_option maxHeartbeats 1000000 in
theorem rdecode_more (g off n m cap : Nat) (x0 x1 x2 L : Int) (w : World) (hnm : n = m + 3) (hm : 3 ≤ m) (hm' : m ≤ 273) (hcap : n ≤ cap) (h0 : 0 ≤ x0) (h0' : x0 ≤ 255) (h1 : 0 ≤ x1) (h1' : x1 ≤ 255) (h2 : 0 ≤ x2) (h2' : x2 ≤ 255) (hL : L = ((min m 63 : Nat) : Int)) (hx : x2 % 64 = L)
    (c0 : w.cell? ⟨g, off, none⟩ = some (.int .u8 x0)) (c1 : w.cell? ⟨g, off + 1, none⟩ = some (.int .u8 x1)) (c2 : w.cell? ⟨g, off + 2, none⟩ = some (.int .u8 x2)) :
    Calls Try.prog 18 #[.slice (some ⟨g, off, none⟩) n cap] w fun e w' => e = .returned (.tuple #[.agg #[.int .u8 (x0 % 128), .int .u8 (x1 % 128), .bool (decide (128 ≤ x0)), .bool (decide (128 ≤ x1)), .int .u8 2, .int .u8 0, .bool false, .slice (some ⟨g, off + 3, none⟩) m (cap - 3)], .int .i64 0]) ∧ Below w.heap.size w w' := by
  have hlt : g < w.heap.size := World.block_lt_of_cell? w ⟨g, off, none⟩ c0
  have e1 : (n : Int) - 3 = (m : Int) := by omega
  have e2 : ¬ cap = 3 := by omega
  have e3 : n - 3 = m := by omega
  have l1 : 3 ≤ n := by omega
  have l2 : n ≤ 276 := by omega
  have t1 : ((m : Int) == 1) = false := by rw [beq_eq_false_iff_ne]; omega
  have t2 : ((m : Int) == 2) = false := by rw [beq_eq_false_iff_ne]; omega
  by_cases h63 : 63 < m
  · have hne : (x2 % 64 != 63) = false := by rw [bne_eq_false_iff_eq]; omega
    clear hnm hx hL
    go_enter Try.func18, Try.ntmps18
    go_wp2
    refine bodyPost_ret (v := .tuple #[.agg #[.int .u8 (x0 % 128), .int .u8 (x1 % 128), .bool (decide (128 ≤ x0)), .bool (decide (128 ≤ x1)), .int .u8 2, .int .u8 0, .bool false, .slice (some ⟨g, off + 3, none⟩) m (cap - 3)], .int .i64 0]) (by simp [results, Try.results18, go_sem] <;> omega) rfl ⟨rfl, ((Below.refl _ _).alloc (Nat.le_refl _) _).alloc (by simp) _⟩
  · have hne : (x2 % 64 != (m : Int)) = false := by rw [bne_eq_false_iff_eq]; omega
    clear hnm hx hL
    go_enter Try.func18, Try.ntmps18
    go_wp2
    refine bodyPost_ret (v := .tuple #[.agg #[.int .u8 (x0 % 128), .int .u8 (x1 % 128), .bool (decide (128 ≤ x0)), .bool (decide (128 ≤ x1)), .int .u8 2, .int .u8 0, .bool false, .slice (some ⟨g, off + 3, none⟩) m (cap - 3)], .int .i64 0]) (by simp [results, Try.results18, go_sem] <;> omega) rfl ⟨rfl, ((Below.refl _ _).alloc (Nat.le_refl _) _).alloc (by simp) _⟩

theorem rdecode_any (ao : Option Addr) (n cap : Nat) (xs : List Int) (D : Un × Nat) (w : World) (hn : xs.length = n) (hcap : n ≤ cap) (hx : ∀ x ∈ xs, 0 ≤ x ∧ x ≤ 255) (hD : dcd xs n = D) (h : Reads w ao (xs.map (.int .u8))) :
    Calls Try.prog 18 #[.slice ao n cap] w fun e w' => Dec 0 w w' D e := by
  subst hD
  by_cases h3 : n < 3
  · refine (rdecode_short ao n cap w h3).mono ?_
    rintro e w' ⟨rfl, hb⟩
    exact Dec.err (dcd_short h3) hb
  by_cases h6 : 276 < n
  · refine (rdecode_long ao n cap w h6).mono ?_
    rintro e w' ⟨rfl, hb⟩
    exact Dec.err (dcd_long h6) hb
  obtain ⟨g, off, rfl⟩ := reads_some h (by simp; omega)
  obtain ⟨c0, r0, r0'⟩ := byte_at h hx 0 (by omega)
  obtain ⟨c1, r1, r1'⟩ := byte_at h hx 1 (by omega)
  obtain ⟨c2, r2, r2'⟩ := byte_at h hx 2 (by omega)
  rw [Nat.add_zero] at c0
  by_cases hL : xs.getD 2 0 % 64 = ((min (n - 3) 63 : Nat) : Int)
  · have hok := dcd_ok h3 h6 hL
    rw [hok]
    have hn' : n = 3 ∨ n = 4 ∨ n = 5 ∨ 5 < n := by omega
    rcases hn' with rfl | rfl | rfl | h5
    · refine (rdecode_fill g off cap _ _ _ w hcap r0 r0' r1 r1' r2 r2' hL c0 c1 c2).mono ?_
      rintro e w' ⟨rfl, hb⟩
      exact Dec.fill rfl hb
    · obtain ⟨c3, r3, r3'⟩ := byte_at h hx 3 (by omega)
      refine (rdecode_one g off cap _ _ _ _ w hcap r0 r0' r1 r1' r2 r2' r3 r3' hL c0 c1 c2 c3).mono ?_
      rintro e w' ⟨rfl, hb⟩
      exact Dec.fill rfl hb
    · obtain ⟨c3, r3, r3'⟩ := byte_at h hx 3 (by omega)
      refine (rdecode_two g off cap _ _ _ _ w hcap r0 r0' r1 r1' r2 r2' r3 r3' hL c0 c1 c2 c3).mono ?_
      rintro e w' ⟨rfl, hb⟩
      exact Dec.fill rfl hb
    · have hr := h.drop 3
      rw [← List.map_drop] at hr
      have hlt : g < w.heap.size := World.block_lt_of_cell? w ⟨g, off, none⟩ c0
      refine (rdecode_more g off n (n - 3) cap _ _ _ _ w (by omega) (by omega) (by omega) hcap r0 r0' r1 r1' r2 r2' rfl hL c0 c1 c2).mono ?_
      rintro e w' ⟨rfl, hb⟩
      have hU : Un.of xs n = ⟨xs.getD 0 0 % 128, xs.getD 1 0 % 128, decide (128 ≤ xs.getD 0 0), decide (128 ≤ xs.getD 1 0), 2, 0, false, xs.drop 3⟩ := by
        unfold Un.of
        rw [if_neg (by omega), if_neg (by omega), if_neg (by omega), if_pos h5, decide_eq_false (show ¬ n = 5 by omega)]
      rw [hU]
      refine ⟨_, _, _, rfl, by simp; omega, by omega, hr.below (Nat.le_refl _) hb, (fun h => by cases h), ?_, hb⟩
      intro x hx
      simp only [Option.some.injEq] at hx
      subst hx
      exact ⟨Nat.zero_le _, Nat.lt_of_lt_of_le hlt hb.size⟩
  · refine (rdecode_form g off n cap (n - 3) (xs.getD 2 0) _ w (by omega) (by omega) r2 r2' rfl hL c2).mono ?_
    rintro e w' ⟨rfl, hb⟩
    exact Dec.err (dcd_form h3 h6 hL) hb
end Go.Proofs.Ythkbfbjlkjfkiaa.Tape
