/- The contracts of the stuff laws' own example (awake) and of their own bits. -/
import Derived.Test.YtokjieejnahfmaaStuff3
import Derived.WalkSmall
namespace Go.Proofs.Ytokjieejnahfmaa.Tape
open Go.ChangeShapes Go.WideShapes Go.ChangeAt Go.RowKit

theorem sel6 : sel [49, 49, 49, 49, 49, 48] = [true, true, true, true, true, false] := by decide
theorem ok6 : allOk [49, 49, 49, 49, 49, 48] = true := by decide
theorem put6 : put [true, true, true, true, true, false] = [true, true, true, true, true, false, false] := by decide

theorem parse_six (w : World) : Calls Try.prog 18 #[.string { data := #[49, 49, 49, 49, 49, 48] }] w fun e w' => (∃ v, e = .returned (.tuple #[v, .int .i64 0]) ∧ w'.ownsRow w.heap.size 4 1 v 6 ([true, true, true, true, true, false].map .bool)) ∧ Below w.heap.size w w' := by
  refine (parse_any { data := #[49, 49, 49, 49, 49, 48] } w (by decide)).mono ?_
  rintro e w1 ⟨hb1, ⟨_, v, rfl, hown⟩ | ⟨hbad, _⟩⟩
  · have h : w1.ownsRow w.heap.size 4 1 v (sel [49, 49, 49, 49, 49, 48]).length ((sel [49, 49, 49, 49, 49, 48]).map .bool) := hown
    rw [sel6] at h
    exact ⟨⟨v, rfl, h⟩, hb1⟩
  · have h : allOk [49, 49, 49, 49, 49, 48] = false := hbad
    rw [ok6] at h
    cases h

set_option maxRecDepth 100000 in
set_option maxHeartbeats 1000000 in
theorem awake4_any (w : World) : Calls Try.prog 8 #[] w fun e w' => e = .returned (.bool true) ∧ Below w.heap.size w w' := by
  go_enter Try.func8, Try.ntmps8
  go_wp2_with fail
  refine (parse_six w).mono ?_
  rintro e w1 ⟨⟨v, rfl, hown⟩, hb1⟩
  obtain ⟨vo, ca, rfl, -, hr, -⟩ := owns_form hown
  have hp := put_any vo 6 ca _ w1 rfl (by omega) hr
  rw [put6] at hp
  clear hown hr
  go_wp2_with fail
  refine hp.mono ?_
  rintro e w2 ⟨v2, rfl, hown2, hb2⟩
  obtain ⟨vo2, ca2, rfl, -, hr2, -⟩ := owns_form hown2
  have hB2 := hb1.trans (hb2.mono hb1.size)
  have ht := text_n vo2 7 ca2 _ w2 rfl (by omega) hr2
  clear hown2 hr2 hp
  go_wp2_with fail
  refine ht.mono ?_
  rintro e w3 ⟨rfl, hb3⟩
  go_wp2
  go_ret
  exact ⟨rfl, hB2.trans (hb3.mono hB2.size)⟩

set_option maxRecDepth 100000 in
set_option maxHeartbeats 1000000 in
theorem bits4_any (ao : Option Addr) (n cap : Nat) (xs : List Int) (c : Int) (w : World) (hn : xs.length = n) (hl : n ≤ 10000) (hx : ∀ x ∈ xs, 0 ≤ x ∧ x ≤ 255) (hc0 : 0 ≤ c) (hc1 : c ≤ 255) (h : Reads w ao (xs.map (.int .u8))) :
    Calls Try.prog 9 #[.slice ao n cap, .int .u8 c] w fun e w' => ∃ vo H ca, e = .returned (.slice vo H ca) ∧ H ≤ 8 * n ∧ ((bits xs).take H).length = H ∧ Reads w' vo (((bits xs).take H).map .bool) ∧ Below w.heap.size w w' := by
  have HN : Hid (xs.length = n) := hn
  clear hn
  go_enter Try.func9, Try.ntmps9
  go_wp2_with fail
  refine (rbits_n _ _ _ _ _ HN.out (by omega) hx h).mono ?_
  rintro e w1 ⟨v, rfl, hown, hb1⟩
  obtain ⟨vo, ca, rfl, hca, hr, -⟩ := owns_form hown
  have hbl : (bits xs).length = 8 * n := by rw [bits_len, HN.out]
  obtain ⟨bs, hbs⟩ : ∃ bs, bs = bits xs := ⟨_, rfl⟩
  rw [← hbs] at hr hbl
  have HBS : Hid (bs = bits xs) := hbs
  obtain ⟨M, hM⟩ : ∃ M, 8 * n = M := ⟨_, rfl⟩
  rw [hM] at hbl hca ⊢
  have hM' : M ≤ 80000 := by omega
  have HM : Hid (8 * n = M) := hM
  have HB : Hid (bs.length = M) := hbl
  clear hown hM hbs hbl h hx
  obtain ⟨H, hH, hHM⟩ := cut_at M c
  have hrt := hr.take H
  rw [← List.map_take] at hrt
  have HLT : Hid ((bs.take H).length = H) := by show (bs.take H).length = H; rw [List.length_take]; have := HB.out; omega
  go_wp2_with fail
  go_ret
  rw [← HBS.out, HM.out]
  exact ⟨vo, H, ca, rfl, hHM, HLT.out, hrt, hb1⟩
end Go.Proofs.Ytokjieejnahfmaa.Tape
