/- The walk of the law UnitReads. -/
import Derived.Test.YthkbfbjlkjfkiaaUnit10
namespace Go.Proofs.Ythkbfbjlkjfkiaa.Tape
open Go.ChangeShapes Go.WideShapes Go.ChangeAt Go.RowKit

theorem dcd_info {ys : List Int} {n : Nat} {U : Un} {E : Nat} (h : dcd ys n = (U, E)) (hy : ∀ x ∈ ys, 0 ≤ x ∧ x ≤ 255) : ∀ x ∈ U.info, 0 ≤ x ∧ x ≤ 255 := by
  have hz : ∀ x ∈ Un.zero.info, 0 ≤ x ∧ x ≤ 255 := by simp [Un.zero]
  unfold dcd at h
  split at h
  · simp only [Prod.mk.injEq] at h; rw [← h.1]; exact hz
  split at h
  · simp only [Prod.mk.injEq] at h; rw [← h.1]; exact hz
  split at h
  · simp only [Prod.mk.injEq] at h; rw [← h.1]; exact hz
  simp only [Prod.mk.injEq] at h
  rw [← h.1]
  intro x hx
  simp only [Un.of] at hx
  split at hx
  · exact hy x (List.mem_of_mem_drop hx)
  · simp at hx

theorem owns_nil {w : World} {B : Nat} : w.ownsRow B 5 1 (.slice none 0 0) 0 [] := ⟨rfl, .inl ⟨rfl, rfl⟩⟩

set_option maxRecDepth 100000 in
set_option maxHeartbeats 1000000 in
theorem reads_long (ao : Option Addr) (n cap : Nat) (li : Bool) (w : World) (hl : 400 < n) (hm : n ≤ maxLen) :
    Calls Try.prog 5 #[.slice ao n cap, .bool li] w fun e w' => e = .returned (.bool true) ∧ Below w.heap.size w w' := by
  unfold maxLen at hm
  go_enter Try.func5, Try.ntmps5
  go_wp2_with fail
  refine (awake6_any w).mono ?_
  rintro e w1 ⟨rfl, hb1⟩
  go_wp2_with fail
  refine (awake6_any w1).mono ?_
  rintro e w2 ⟨rfl, hb2⟩
  go_wp2
  go_ret
  exact ⟨rfl, hb1.trans (hb2.mono hb1.size)⟩

set_option maxRecDepth 100000 in
set_option maxHeartbeats 2000000 in
theorem reads_plain (ao : Option Addr) (n cap : Nat) (li : Bool) (xs : List Int) (w : World) (hl : n ≤ 400) (hli : li = false ∨ (li = true ∧ n < 3)) (hn : xs.length = n) (hnil : ao = none → cap = 0) (hx : ∀ x ∈ xs, 0 ≤ x ∧ x ≤ 255) (h : Reads w ao (xs.map (.int .u8))) :
    Calls Try.prog 5 #[.slice ao n cap, .bool li] w fun e w' => e = .returned (.bool true) ∧ Below w.heap.size w w' := by
  obtain ⟨U, E, hD⟩ : ∃ U E, dcd xs n = (U, E) := ⟨_, _, rfl⟩
  have HU : Hid (∀ x ∈ U.info, 0 ≤ x ∧ x ≤ 255) := dcd_info hD hx
  have HX : Hid (∀ x ∈ xs, 0 ≤ x ∧ x ≤ 255) := hx
  have HN : Hid (xs.length = n) := hn
  have HD : Hid (dcd xs n = (U, E)) := hD
  clear hx hD hn
  rcases hli with rfl | ⟨rfl, h3⟩
  all_goals
    go_enter Try.func5, Try.ntmps5
    go_wp2_with fail
    refine (awake6_any w).mono ?_
    rintro e w1 ⟨rfl, hb1⟩
    have hr1 := h.below (Nat.le_refl _) hb1
    clear h
    go_wp2_with (at_builtin; refine append_reads rfl _ _ rfl w1.heap.size _ 0 [] rfl owns_nil ao n cap xs rfl HN.out hr1 hnil (by omega) (Nat.le_refl _) ?_; intro v2 w2 hown2 hb2; rw [Nat.zero_add, List.nil_append] at hown2; obtain ⟨vo, ca, rfl, hca, hr2, -⟩ := owns_form hown2)
    have hB2 := hb1.trans (hb2.mono hb1.size)
    clear hown2 hb1 hb2 hr1
    have hsz2 := hB2.size
    refine (decode_any vo n ca xs (U, E) w2 HN.out hca HX.out HD.out hr2).mono ?_
    rintro e w3 ⟨d1, m1, k1, rfl, hm1, hk1, hd1, -, -, hb3⟩
    have hr3 := hr2.below (Nat.le_refl _) hb3
    have hB3 := hB2.trans (hb3.mono hsz2)
    have HM1 : Hid (U.info.length = m1) := hm1
    clear hr2 hb3 hB2 hsz2 hm1
    go_wp2_with fail
    have hbA : Below w3.heap.size w3 (w3.alloc (.cells #[.int .u8 U.b, .int .u8 U.f, .bool U.p, .bool U.q, .int .u8 U.k, .int .u8 U.s, .bool U.wd, .slice d1 m1 k1] 24)) := (Below.refl _ _).alloc (Nat.le_refl _) _
    have hx1 := heap_alloc_new w3 (.cells #[.int .u8 U.b, .int .u8 U.f, .bool U.p, .bool U.q, .int .u8 U.k, .int .u8 U.s, .bool U.wd, .slice d1 m1 k1] 24)
    refine (rdecode_any vo n ca xs (U, E) _ HN.out hca HX.out HD.out (hr3.below (Nat.le_refl _) hbA)).mono ?_
    rintro e w4 ⟨d2, m2, k2, rfl, hm2, hk2, hd2, -, -, hb4⟩
    have hx1' := block_keep hx1 hb4 (Nat.le_refl _)
    have hd1' := (hd1.below (Nat.le_refl _) hbA).below (Nat.le_refl _) hb4
    have hlt4 := heap_lt hx1'
    have hb34 := hbA.trans (hb4.mono hbA.size)
    have HB4 : Hid (Below w.heap.size w w4) := hB3.trans (hb34.mono hB3.size)
    have HM2 : Hid (U.info.length = m2) := hm2
    have HR1 : Hid (Reads w4 d1 (U.info.map (.int .u8))) := hd1'
    have HR2 : Hid (Reads w4 d2 (U.info.map (.int .u8))) := hd2
    obtain ⟨⟨c0, c1, c2, c3, c4, c5, c6, c7⟩, -⟩ := unit_cells hx1'
    clear hr3 hd1 hbA hx1 hx1' hd1' hd2 hb4 hb34 hB3 hm2
    go_wp2_with fail
    have hbE : Below w4.heap.size w4 (w4.alloc (.cells #[.int .u8 U.b, .int .u8 U.f, .bool U.p, .bool U.q, .int .u8 U.k, .int .u8 U.s, .bool U.wd, .slice d2 m2 k2] 24)) := (Below.refl _ _).alloc (Nat.le_refl _) _
    refine (rsame6_any _ _ _ _ _ _ _ d1 m1 k1 U.info _ _ _ _ _ _ _ d2 m2 k2 U.info true _ (by simp) HM1.out HM2.out HU.out HU.out (HR1.out.below (Nat.le_refl _) hbE) (HR2.out.below (Nat.le_refl _) hbE)).mono ?_
    rintro e w5 ⟨rfl, hb5⟩
    have HB5 : Hid (Below w.heap.size w w5) := (HB4.out.trans (hbE.mono HB4.out.size)).trans (hb5.mono (Nat.le_trans HB4.out.size hbE.size))
    clear hb5 hbE c0 c1 c2 c3 c4 c5 c6 c7
    go_wp2
    go_ret
    exact ⟨rfl, HB5.out⟩

/-- The octets with the length indicator that tells of them. -/
def lis (xs : List Int) (n : Nat) : List Int := xs.set 2 (xs.getD 2 0 / 64 * 64 + ((min (n - 3) 63 : Nat) : Int))

theorem lis_range {xs : List Int} {n : Nat} (h3 : 3 ≤ n) (hn : xs.length = n) (hx : ∀ x ∈ xs, 0 ≤ x ∧ x ≤ 255) : ∀ x ∈ lis xs n, 0 ≤ x ∧ x ≤ 255 := by
  intro x h
  rcases List.mem_or_eq_of_mem_set h with h | rfl
  · exact hx x h
  · have := hx (xs.getD 2 0) (by rw [getD_get _ _ (by omega)]; exact List.getElem_mem _)
    omega

set_option maxRecDepth 100000 in
set_option maxHeartbeats 2000000 in
theorem reads_store (ao : Option Addr) (n cap : Nat) (xs : List Int) (w : World) (hl : n ≤ 400) (h3 : 3 ≤ n) (hn : xs.length = n) (hnil : ao = none → cap = 0) (hx : ∀ x ∈ xs, 0 ≤ x ∧ x ≤ 255) (h : Reads w ao (xs.map (.int .u8))) :
    Calls Try.prog 5 #[.slice ao n cap, .bool true] w fun e w' => e = .returned (.bool true) ∧ Below w.heap.size w w' := by
  obtain ⟨ys, hys⟩ : ∃ ys, ys = lis xs n := ⟨_, rfl⟩
  obtain ⟨U, E, hD⟩ : ∃ U E, dcd ys n = (U, E) := ⟨_, _, rfl⟩
  have hy : ∀ x ∈ ys, 0 ≤ x ∧ x ≤ 255 := by rw [hys]; exact lis_range h3 hn hx
  have HU : Hid (∀ x ∈ U.info, 0 ≤ x ∧ x ≤ 255) := dcd_info hD hy
  have HX : Hid (∀ x ∈ ys, 0 ≤ x ∧ x ≤ 255) := hy
  have HN : Hid (ys.length = n) := by show _ = _; rw [hys]; simp [lis, hn]
  have HN0 : Hid (xs.length = n) := hn
  have HD : Hid (dcd ys n = (U, E)) := hD
  obtain ⟨hz0, hz1⟩ := hx (xs.getD 2 0) (by rw [getD_get _ _ (by omega)]; exact List.getElem_mem _)
  obtain ⟨z, hz⟩ : ∃ z, z = xs.getD 2 0 := ⟨_, rfl⟩
  rw [← hz] at hz0 hz1
  have HZ : Hid (z = xs.getD 2 0) := hz
  have HYS : Hid (ys = xs.set 2 (z / 64 * 64 + ((min (n - 3) 63 : Nat) : Int))) := by show _ = _; rw [hys, hz]; rfl
  obtain ⟨m, hnm⟩ : ∃ m, n = m + 3 := ⟨n - 3, by omega⟩
  have HNM : Hid (n = m + 3) := hnm
  have e1 : (n : Int) - 3 = (m : Int) := by omega
  clear hx hD hn hys hy hz hnm
  by_cases h63 : 63 < m
  all_goals
    go_enter Try.func5, Try.ntmps5
    go_wp2_with fail
    refine (awake6_any w).mono ?_
    rintro e w1 ⟨rfl, hb1⟩
    have hr1 := h.below (Nat.le_refl _) hb1
    clear h
    go_wp2_with (at_builtin; refine append_reads rfl _ _ rfl w1.heap.size _ 0 [] rfl owns_nil ao n cap xs rfl HN0.out hr1 hnil (by omega) (Nat.le_refl _) ?_; intro v2 w2 hown2 hb2; rw [Nat.zero_add, List.nil_append] at hown2; obtain ⟨g, ca, rfl⟩ := Joins.ownsRow_form hown2 (by omega); have hca := owns_cap hown2; obtain ⟨c2, f2, hg2⟩ := owns_cell hown2 2 (by have := HN0.out; simp; omega); rw [List.getElem_map, ← getD_get _ _ (by have := HN0.out; omega), ← HZ.out] at c2)
    first
      | (obtain ⟨W2, hW2⟩ : ∃ W2, W2 = w2.setCell ⟨g, 2, none⟩ (.int .u8 (z / 64 * 64 + 63)) := ⟨_, rfl⟩
         rw [← hW2]
         have hmin : ((min (n - 3) 63 : Nat) : Int) = 63 := by have := HNM.out; omega)
      | (obtain ⟨W2, hW2⟩ : ∃ W2, W2 = w2.setCell ⟨g, 2, none⟩ (.int .u8 (z / 64 * 64 + (m : Int))) := ⟨_, rfl⟩
         rw [← hW2]
         have hmin : ((min (n - 3) 63 : Nat) : Int) = m := by have := HNM.out; omega)
    have hOY : W2.ownsRow w1.heap.size 5 1 (.slice (some ⟨g, 0, none⟩) n ca) n (ys.map (.int .u8)) := by
      rw [hW2, HYS.out, List.map_set, hmin]; exact owns_set hown2 2 _
    have hB2 : Below w.heap.size w W2 := by
      rw [hW2]; exact (hb1.trans (hb2.mono hb1.size)).setCell (Nat.le_trans hb1.size hg2) _
    have hr2 := Reads.of_owns hOY
    clear hOY hW2 hmin hown2 hb1 hb2 hr1 c2 f2 hg2 e1
    have hsz2 := hB2.size
    refine (decode_any (some ⟨g, 0, none⟩) n ca ys (U, E) W2 HN.out hca HX.out HD.out hr2).mono ?_
    rintro e w3 ⟨d1, m1, k1, rfl, hm1, hk1, hd1, -, -, hb3⟩
    have hr3 := hr2.below (Nat.le_refl _) hb3
    have hB3 := hB2.trans (hb3.mono hsz2)
    have HM1 : Hid (U.info.length = m1) := hm1
    clear hr2 hb3 hB2 hsz2 hm1
    go_wp2_with fail
    have hbA : Below w3.heap.size w3 (w3.alloc (.cells #[.int .u8 U.b, .int .u8 U.f, .bool U.p, .bool U.q, .int .u8 U.k, .int .u8 U.s, .bool U.wd, .slice d1 m1 k1] 24)) := (Below.refl _ _).alloc (Nat.le_refl _) _
    have hx1 := heap_alloc_new w3 (.cells #[.int .u8 U.b, .int .u8 U.f, .bool U.p, .bool U.q, .int .u8 U.k, .int .u8 U.s, .bool U.wd, .slice d1 m1 k1] 24)
    refine (rdecode_any (some ⟨g, 0, none⟩) n ca ys (U, E) _ HN.out hca HX.out HD.out (hr3.below (Nat.le_refl _) hbA)).mono ?_
    rintro e w4 ⟨d2, m2, k2, rfl, hm2, hk2, hd2, -, -, hb4⟩
    have hx1' := block_keep hx1 hb4 (Nat.le_refl _)
    have hd1' := (hd1.below (Nat.le_refl _) hbA).below (Nat.le_refl _) hb4
    have hlt4 := heap_lt hx1'
    have hb34 := hbA.trans (hb4.mono hbA.size)
    have HB4 : Hid (Below w.heap.size w w4) := hB3.trans (hb34.mono hB3.size)
    have HM2 : Hid (U.info.length = m2) := hm2
    have HR1 : Hid (Reads w4 d1 (U.info.map (.int .u8))) := hd1'
    have HR2 : Hid (Reads w4 d2 (U.info.map (.int .u8))) := hd2
    obtain ⟨⟨c0, c1, c2, c3, c4, c5, c6, c7⟩, -⟩ := unit_cells hx1'
    clear hr3 hd1 hbA hx1 hx1' hd1' hd2 hb4 hb34 hB3 hm2
    go_wp2_with fail
    have hbE : Below w4.heap.size w4 (w4.alloc (.cells #[.int .u8 U.b, .int .u8 U.f, .bool U.p, .bool U.q, .int .u8 U.k, .int .u8 U.s, .bool U.wd, .slice d2 m2 k2] 24)) := (Below.refl _ _).alloc (Nat.le_refl _) _
    refine (rsame6_any _ _ _ _ _ _ _ d1 m1 k1 U.info _ _ _ _ _ _ _ d2 m2 k2 U.info true _ (by simp) HM1.out HM2.out HU.out HU.out (HR1.out.below (Nat.le_refl _) hbE) (HR2.out.below (Nat.le_refl _) hbE)).mono ?_
    rintro e w5 ⟨rfl, hb5⟩
    have HB5 : Hid (Below w.heap.size w w5) := (HB4.out.trans (hbE.mono HB4.out.size)).trans (hb5.mono (Nat.le_trans HB4.out.size hbE.size))
    clear hb5 hbE c0 c1 c2 c3 c4 c5 c6 c7
    go_wp2
    go_ret
    exact ⟨rfl, HB5.out⟩

theorem reads_walk (ao : Option Addr) (n cap : Nat) (li : Bool) (xs : List Int) (w : World) (hn : xs.length = n) (hm : n ≤ maxLen) (hnil : ao = none → cap = 0) (hx : ∀ x ∈ xs, 0 ≤ x ∧ x ≤ 255) (h : Reads w ao (xs.map (.int .u8))) :
    Calls Try.prog 5 #[.slice ao n cap, .bool li] w fun e w' => e = .returned (.bool true) ∧ Below w.heap.size w w' := by
  by_cases hl : 400 < n
  · exact reads_long ao n cap li w hl hm
  · cases li with
    | false => exact reads_plain ao n cap false xs w (by omega) (.inl rfl) hn hnil hx h
    | true =>
      by_cases h3 : n < 3
      · exact reads_plain ao n cap true xs w (by omega) (.inr ⟨rfl, h3⟩) hn hnil hx h
      · exact reads_store ao n cap xs w (by omega) (by omega) hn hnil hx h
end Go.Proofs.Ythkbfbjlkjfkiaa.Tape
