/- The contract of unit's Decode, whole. -/
import Derived.Test.YthkbfbjlkjfkiaaUnit6
namespace Go.Proofs.Ythkbfbjlkjfkiaa.Tape
open Go.ChangeShapes Go.WideShapes Go.ChangeAt Go.RowKit

set_option maxRecDepth 100000 in
set_option maxHeartbeats 1000000 in
theorem decode_more (g off n m cap : Nat) (x0 x1 x2 L : Int) (ys : List Int) (w : World) (hnm : n = m + 3) (hm : 3 ≤ m) (hm' : m ≤ 273) (hcap : n ≤ cap) (h0 : 0 ≤ x0) (h0' : x0 ≤ 255) (h1 : 0 ≤ x1) (h1' : x1 ≤ 255) (h2 : 0 ≤ x2) (h2' : x2 ≤ 255) (hL : L = ((min m 63 : Nat) : Int)) (hx : x2 % 64 = L)
    (c0 : w.cell? ⟨g, off, none⟩ = some (.int .u8 x0)) (c1 : w.cell? ⟨g, off + 1, none⟩ = some (.int .u8 x1)) (c2 : w.cell? ⟨g, off + 2, none⟩ = some (.int .u8 x2)) (hyl : ys.length = m) (hr : Reads w (some ⟨g, off + 3, none⟩) (ys.map (.int .u8))) :
    Calls Try.prog 13 #[.slice (some ⟨g, off, none⟩) n cap] w fun e w' => ∃ g' ca, e = .returned (.tuple #[.agg #[.int .u8 (x0 % 128), .int .u8 (x1 % 128), .bool (decide (128 ≤ x0)), .bool (decide (128 ≤ x1)), .int .u8 2, .int .u8 0, .bool false, .slice (some ⟨g', 0, none⟩) m ca], .int .i64 0]) ∧ m ≤ ca ∧ Reads w' (some ⟨g', 0, none⟩) (ys.map (.int .u8)) ∧ Lies w' w.heap.size (some ⟨g', 0, none⟩) ∧ Below w.heap.size w w' := by
  have hlen : ∀ W, Calls Try.prog 22 #[.int .i64 m] W fun e w' => e = .returned (.int .u8 L) ∧ w' = W := fun W => by rw [hL]; exact length_any m W (by omega)
  have ha : Go.bits BinOp.and IntKind.u8 x2 63 = L := (and63 x2 h2 h2').trans hx
  have hs0 := fun W => split_any x0 W h0 h0'
  have hs1 := fun W => split_any x1 W h1 h1'
  have hlt : g < w.heap.size := World.block_lt_of_cell? w ⟨g, off, none⟩ c0
  have c2' : (w.alloc (.cells #[.int .u8 0, .int .u8 0, .bool false, .bool false, .int .u8 0, .int .u8 0, .bool false, .slice none 0 0] 24)).cell? ⟨g, off + 2, none⟩ = some (.int .u8 x2) := by
    rw [((Below.refl w.heap.size w).alloc (Nat.le_refl _) _).cell (p := ⟨g, off + 2, none⟩) hlt]; exact c2
  have e1 : (n : Int) - 3 = (m : Int) := by omega
  have e2 : ¬ cap = 3 := by omega
  have e3 : n - 3 = m := by omega
  have l1 : 3 ≤ n := by omega
  have l2 : n ≤ 276 := by omega
  have HYL : Hid (ys.length = m) := hyl
  have t0 : ((m : Int) == 0) = false := by rw [beq_eq_false_iff_ne]; omega
  have t1 : ((m : Int) == 1) = false := by rw [beq_eq_false_iff_ne]; omega
  have t2 : ((m : Int) == 2) = false := by rw [beq_eq_false_iff_ne]; omega
  clear c2 hx hL hnm hyl
  go_enter Try.func13, Try.ntmps13
  go_wp2
  go_quiet ((go_at_call 22; exact Calls.quiet_of_same (hlen _)))
  rw [alloc_drewN, show w.heap.size = (w.drewN nq).heap.size from rfl]
  have hb1 : Below w.heap.size w (w.drewN nq) := below_drewN (Below.refl _ _) _
  have hz1 : Hid ((w.drewN nq).heap.size = w.heap.size) := Eq.refl w.heap.size
  have d0 : (w.drewN nq).cell? ⟨g, off, none⟩ = some (.int .u8 x0) := c0
  have d1 : (w.drewN nq).cell? ⟨g, off + 1, none⟩ = some (.int .u8 x1) := c1
  have hr1 : Reads (w.drewN nq) (some ⟨g, off + 3, none⟩) (ys.map (.int .u8)) := hr
  have hlt1 : g < (w.drewN nq).heap.size := hlt
  generalize w.drewN nq = w1 at hb1 hz1 d0 d1 hr1 hlt1 ⊢
  clear c0 c1 c2' ha hlt hr
  go_wp2_with (first
    | (go_at_call 23; refine (hs0 _).mono ?_; rintro e w' ⟨rfl, hw'⟩; obtain rfl := hw'.symm; clear hw')
    | (go_at_call 23; refine (hs1 _).mono ?_; rintro e w' ⟨rfl, hw'⟩; obtain rfl := hw'.symm; clear hw'))
  obtain ⟨W2, hW2⟩ : ∃ W2, W2 = ((w1.alloc (.cells #[.int .u8 0, .int .u8 0, .bool false, .bool false, .int .u8 0, .int .u8 0, .bool false, .slice none 0 0] 24)).alloc (.cells #[.int .u8 (x0 % 128), .int .u8 (x1 % 128), .bool (decide (128 ≤ x0)), .bool (decide (128 ≤ x1)), .int .u8 2, .int .u8 0, .bool false, .slice none 0 0] 24)) := ⟨_, rfl⟩
  rw [← hW2]
  have hbA : Below w1.heap.size w1 W2 := by rw [hW2]; exact ((Below.refl _ _).alloc (Nat.le_refl _) _).alloc (by simp) _
  have hsA : Hid (W2.heap.size = w1.heap.size + 2) := by show _ = _; rw [hW2]; simp
  have hx1 : W2.heap[w1.heap.size]? = some (.cells #[.int .u8 0, .int .u8 0, .bool false, .bool false, .int .u8 0, .int .u8 0, .bool false, .slice none 0 0] 24 (0, 0)) := by
    rw [hW2]; exact heap_more (heap_alloc_new w1 _) _
  have hx2 : W2.heap[w1.heap.size + 1]? = some (.cells #[.int .u8 (x0 % 128), .int .u8 (x1 % 128), .bool (decide (128 ≤ x0)), .bool (decide (128 ≤ x1)), .int .u8 2, .int .u8 0, .bool false, .slice none 0 0] 24 (0, 0)) := by
    rw [hW2]; have := heap_alloc_new (w1.alloc (.cells #[.int .u8 0, .int .u8 0, .bool false, .bool false, .int .u8 0, .int .u8 0, .bool false, .slice none 0 0] 24)) (.cells #[.int .u8 (x0 % 128), .int .u8 (x1 % 128), .bool (decide (128 ≤ x0)), .bool (decide (128 ≤ x1)), .int .u8 2, .int .u8 0, .bool false, .slice none 0 0] 24); simpa using this
  have hr2 := hr1.below (Nat.le_refl _) hbA
  clear hW2 d0 d1 hr1 hs0 hs1 hlen t0 t1 t2
  refine (clone_any g (off + 3) m (cap - 3) ys W2 HYL.out (by omega) hr2).mono ?_
  rintro e w3 ⟨v, rfl, hown, hb3⟩
  obtain ⟨vo, ca, rfl, hca, -, hvo⟩ := owns_form hown
  obtain ⟨g', rfl⟩ : ∃ g', vo = some ⟨g', 0, none⟩ := by
    rcases hvo with ⟨_, h, _⟩ | h
    · omega
    · exact h
  have hx1' := block_keep hx1 hb3 (Nat.le_refl _)
  have hx2' := block_keep hx2 hb3 (Nat.le_refl _)
  have hli := owns_lies hown
  obtain ⟨⟨a0, a1, a2, a3, a4, a5, a6, a7⟩, af⟩ := unit_cells hx1'
  obtain ⟨⟨b0, b1, b2, b3, b4, b5, b6, b7⟩, bf⟩ := unit_cells hx2'
  have HB : Hid (Below w.heap.size w w3) := (hb1.trans (hbA.mono (by have := hz1.out; omega))).trans (hb3.mono (by have := hz1.out; have := hsA.out; omega))
  have HO : Hid (w3.ownsRow W2.heap.size 5 1 (.slice (some ⟨g', 0, none⟩) m ca) m (ys.map (.int .u8))) := hown
  have HLI : Hid (Lies w3 W2.heap.size (some ⟨g', 0, none⟩)) := hli
  have n1 := af 0
  have n2 := af 1
  have n3 := af 2
  have n4 := af 3
  have n5 := af 4
  have n6 := af 5
  have n7 := af 6
  have n8 := af 7
  have n9 := bf 7
  clear hx1 hx2 hx1' hx2' hown hli hb3 hr2 hvo hbA hb1 af bf
  go_wp2
  have hz := hz1.out
  have hA := hsA.out
  refine bodyPost_ret (v := .tuple #[.agg #[.int .u8 (x0 % 128), .int .u8 (x1 % 128), .bool (decide (128 ≤ x0)), .bool (decide (128 ≤ x1)), .int .u8 2, .int .u8 0, .bool false, .slice (some ⟨g', 0, none⟩) m ca], .int .i64 0]) (by simp [results, Try.results13, go_sem, a0, a1, a2, a3, a4, a5, a6, a7]) rfl ⟨g', ca, rfl, hca, ?_, ?_, ?_⟩
  · refine Reads.of_owns (base := W2.heap.size) (e := 5) (cap := ca) (n := m) (m := m) ?_
    iterate 9 refine ownsRow_setCell_below ?_ (by show _ < _; simp only; omega) _
    exact HO.out
  · exact HLI.out.mono (by omega) (by simp [World.setCell])
  · iterate 9 refine Below.setCell ?_ (by show _ ≤ _; simp only; omega) _
    exact HB.out

theorem dcd_short {xs : List Int} {n : Nat} (h : n < 3) : dcd xs n = (Un.zero, 5) := by unfold dcd; rw [if_pos h]
theorem dcd_long {xs : List Int} {n : Nat} (h : 276 < n) : dcd xs n = (Un.zero, 6) := by unfold dcd; rw [if_neg (by omega), if_pos h]
theorem dcd_form {xs : List Int} {n : Nat} (h : ¬ n < 3) (h2 : ¬ 276 < n) (h3 : xs.getD 2 0 % 64 ≠ ((min (n - 3) 63 : Nat) : Int)) : dcd xs n = (Un.zero, 4) := by unfold dcd; rw [if_neg h, if_neg h2, if_pos h3]
theorem dcd_ok {xs : List Int} {n : Nat} (h : ¬ n < 3) (h2 : ¬ 276 < n) (h3 : xs.getD 2 0 % 64 = ((min (n - 3) 63 : Nat) : Int)) : dcd xs n = (Un.of xs n, 0) := by unfold dcd; rw [if_neg h, if_neg h2, if_neg (by simpa using h3)]

theorem Dec.fill {B : Nat} {w w' : World} {D : Un × Nat} {b f k s : Int} {p q wd : Bool} (hD : D = (⟨b, f, p, q, k, s, wd, []⟩, 0)) (hb : Below w.heap.size w w') : Dec B w w' D (.returned (.tuple #[.agg #[.int .u8 b, .int .u8 f, .bool p, .bool q, .int .u8 k, .int .u8 s, .bool wd, .slice none 0 0], .int .i64 0])) := by
  subst hD
  exact ⟨none, 0, 0, rfl, rfl, Nat.le_refl _, Reads.nil _ _, fun _ => rfl, Lies.none _ _, hb⟩

theorem decode_any (ao : Option Addr) (n cap : Nat) (xs : List Int) (D : Un × Nat) (w : World) (hn : xs.length = n) (hcap : n ≤ cap) (hx : ∀ x ∈ xs, 0 ≤ x ∧ x ≤ 255) (hD : dcd xs n = D) (h : Reads w ao (xs.map (.int .u8))) :
    Calls Try.prog 13 #[.slice ao n cap] w fun e w' => Dec w.heap.size w w' D e := by
  subst hD
  by_cases h3 : n < 3
  · refine (decode_short ao n cap w h3).mono ?_
    rintro e w' ⟨rfl, hb⟩
    exact Dec.err (dcd_short h3) hb
  by_cases h6 : 276 < n
  · refine (decode_long ao n cap w h6).mono ?_
    rintro e w' ⟨rfl, hb⟩
    exact Dec.err (dcd_long h6) hb
  obtain ⟨g, off, rfl⟩ := reads_some h (by simp; omega)
  obtain ⟨c0, r0, r0'⟩ := byte_at h hx 0 (by omega)
  obtain ⟨c1, r1, r1'⟩ := byte_at h hx 1 (by omega)
  obtain ⟨c2, r2, r2'⟩ := byte_at h hx 2 (by omega)
  rw [Nat.add_zero] at c0
  by_cases hL : xs.getD 2 0 % 64 = ((min (n - 3) 63 : Nat) : Int)
  · have hok := dcd_ok h3 h6 hL
    rw [hok]
    have hn' : n = 3 ∨ n = 4 ∨ n = 5 ∨ 5 < n := by omega
    rcases hn' with rfl | rfl | rfl | h5
    · refine (decode_fill g off cap _ _ _ w hcap r0 r0' r1 r1' r2 r2' hL c0 c1 c2).mono ?_
      rintro e w' ⟨rfl, hb⟩
      exact Dec.fill rfl hb
    · obtain ⟨c3, r3, r3'⟩ := byte_at h hx 3 (by omega)
      refine (decode_one g off cap _ _ _ _ w hcap r0 r0' r1 r1' r2 r2' r3 r3' hL c0 c1 c2 c3).mono ?_
      rintro e w' ⟨rfl, hb⟩
      exact Dec.fill rfl hb
    · obtain ⟨c3, r3, r3'⟩ := byte_at h hx 3 (by omega)
      refine (decode_two g off cap _ _ _ _ w hcap r0 r0' r1 r1' r2 r2' r3 r3' hL c0 c1 c2 c3).mono ?_
      rintro e w' ⟨rfl, hb⟩
      exact Dec.fill rfl hb
    · have hr := h.drop 3
      rw [← List.map_drop] at hr
      refine (decode_more g off n (n - 3) cap _ _ _ _ (xs.drop 3) w (by omega) (by omega) (by omega) hcap r0 r0' r1 r1' r2 r2' rfl hL c0 c1 c2 (by simp; omega) hr).mono ?_
      rintro e w' ⟨g', ca, rfl, hca, hrd, hli, hb⟩
      have hU : Un.of xs n = ⟨xs.getD 0 0 % 128, xs.getD 1 0 % 128, decide (128 ≤ xs.getD 0 0), decide (128 ≤ xs.getD 1 0), 2, 0, false, xs.drop 3⟩ := by
        unfold Un.of
        rw [if_neg (by omega), if_neg (by omega), if_neg (by omega), if_pos h5, decide_eq_false (show ¬ n = 5 by omega)]
      rw [hU]
      exact ⟨_, _, _, rfl, by simp; omega, hca, hrd, (fun h => by cases h), hli, hb⟩
  · refine (decode_form g off n cap (n - 3) (xs.getD 2 0) w (by omega) (by omega) r2 r2' hL c2).mono ?_
    rintro e w' ⟨rfl, hb⟩
    exact Dec.err (dcd_form h3 h6 hL) hb
end Go.Proofs.Ythkbfbjlkjfkiaa.Tape
