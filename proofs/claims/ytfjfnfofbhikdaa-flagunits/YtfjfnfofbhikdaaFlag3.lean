/- The contracts of flag's Judge, and of the reference's. -/
import Derived.Test.YtfjfnfofbhikdaaFlag2
namespace Go.Proofs.Ytfjfnfofbhikdaa.Tape
open Go.ChangeShapes Go.WideShapes Go.ChangeAt Go.RowKit

/-- What a Judge answers. -/
def Judged (w w' : World) (J : List Int × Nat) (e : Ending) : Prop :=
  ∃ vo m ca, e = .returned (.tuple #[.slice vo m ca, .int .i64 J.2]) ∧ J.1.length = m ∧ m ≤ ca ∧ Reads w' vo (J.1.map (.int .u8)) ∧ Lies w' w.heap.size vo ∧ (vo = none → ca = 0) ∧ Below w.heap.size w w'

theorem Judged.err {w w' : World} {J : List Int × Nat} {k : Nat} (hJ : J = ([], k)) (hb : Below w.heap.size w w') : Judged w w' J (.returned (.tuple #[.slice none 0 0, .int .i64 k])) :=
  ⟨none, 0, 0, by rw [hJ], by rw [hJ]; rfl, Nat.le_refl _, by rw [hJ]; exact Reads.nil _ _, Lies.none _ _, fun _ => rfl, hb⟩

theorem jdp_err {P : List Bool × Nat} (h : P.2 ≠ 0) : jdp P = ([], 4) := by unfold jdp; rw [if_pos h]
theorem jdp_whole {P : List Bool × Nat} (h : P.2 = 0) (h8 : P.1.length % 8 ≠ 0) : jdp P = ([], 8) := by unfold jdp; rw [if_neg (by simp [h]), if_pos h8]
theorem jdp_oct {P : List Bool × Nat} {N : Nat} (h : P.2 = 0) (h8 : P.1.length % 8 = 0) (hN : N = P.1.length / 8) : jdp P = jdo (octsTo P.1 N) N := by unfold jdp; rw [if_neg (by simp [h]), if_neg (by simp [h8]), hN]
theorem jdo_short {xs : List Int} {n : Nat} (h : n < 5) : jdo xs n = ([], 5) := by unfold jdo; rw [if_pos h]
theorem jdo_long {xs : List Int} {n : Nat} (h : ¬ n < 5) (h2 : 279 < n) : jdo xs n = ([], 6) := by unfold jdo; rw [if_neg h, if_pos h2]
theorem jdo_right {xs : List Int} {n : Nat} (h : ¬ n < 5) (h2 : ¬ 279 < n) (h3 : left xs = good) : jdo xs n = (xs.take (n - 2), 0) := by unfold jdo; rw [if_neg h, if_neg h2, if_pos h3]
theorem jdo_check {xs : List Int} {n : Nat} (h : ¬ n < 5) (h2 : ¬ 279 < n) (h3 : ¬ left xs = good) : jdo xs n = ([], 7) := by unfold jdo; rw [if_neg h, if_neg h2, if_neg h3]

set_option maxRecDepth 100000 in
set_option maxHeartbeats 2000000 in
theorem judge_any (ao : Option Addr) (cap n : Nat) (bs : List Bool) (J : List Int × Nat) (w : World) (hn : bs.length = n) (hl : n ≤ 100000) (hJ : jdg bs = J) (h : Reads w ao (bs.map .bool)) :
    Calls Try.prog 12 #[.slice ao n cap] w fun e w' => Judged w w' J e := by
  have hkl := tk_len bs 0 []
  have her := tk_err bs 0 []
  obtain ⟨⟨os, E⟩, hP⟩ : ∃ P, tk bs 0 [] = P := ⟨_, rfl⟩
  rw [hP] at hkl her
  have HP : Hid (tk bs 0 [] = (os, E)) := hP
  have HJ : Hid (jdp (os, E) = J) := by show _ = _; rw [← hP]; exact hJ
  have HB : Hid (bs.length = n) := hn
  have hkl' : os.length ≤ n := by rw [hn] at hkl; simpa using hkl
  have her' : E = 0 ∨ E = 4 ∨ E = 5 := by rcases her with h | ⟨h | h, _⟩ <;> simp at h <;> omega
  obtain ⟨K, hK⟩ : ∃ K, os.length = K := ⟨_, rfl⟩
  have HK : Hid (os.length = K) := hK
  rw [hK] at hkl'
  clear hkl her hP hK hn hJ
  rcases her' with rfl | her'
  · by_cases h8 : K % 8 = 0
    · obtain ⟨N, hN⟩ : ∃ N, N = K / 8 := ⟨_, rfl⟩
      have hNK : N ≤ 100000 := by omega
      have HJ2 : Hid (jdo (octsTo os N) N = J) := (jdp_oct (P := (os, 0)) (N := N) rfl (by rw [HK.out]; exact h8) (by rw [HK.out]; exact hN)).symm.trans HJ.out
      have HN : Hid (N = K / 8) := hN
      clear hN
      have hft := fun w => fits_any N w (by omega)
      go_enter Try.func12, Try.ntmps12
      go_wp2_with fail
      refine (take_any _ _ _ _ _ _ HB.out HP.out (by omega) h).mono ?_
      rintro e w1 ⟨v1, rfl, hown1, hb1⟩
      have hown1' : w1.ownsRow w.heap.size 4 1 v1 K (os.map .bool) := by have := hown1; rw [HK.out] at this; exact this
      obtain ⟨vo1, ca1, rfl, hca1, hr1, -⟩ := owns_form hown1'
      clear hown1 hown1'
      have hoc := octets_ok vo1 K ca1 os w1 HK.out (by omega) hca1 h8 hr1
      rw [← HN.out] at hoc
      have hsz1 := hb1.size
      go_wp2_with fail
      refine hoc.mono ?_
      rintro e w2 ⟨v2, rfl, hown2, hb2⟩
      have hB2 := hb1.trans (hb2.mono hb1.size)
      have hown2' := owns_lower hown2 hb1.size
      obtain ⟨vo2, ca2, rfl, hca2, hr2, -⟩ := owns_form hown2'
      have hli := owns_lies hown2'
      have HXL : Hid ((octsTo os N).length = N) := octsTo_len _ _
      have hxr := octs_range os N
      generalize octsTo os N = xs at HJ2 hr2 HXL hxr
      clear hoc hown2 hown2' hr1 hb2 h h8
      by_cases h5 : N < 5
      · have hf : ∀ w : World, Calls Try.prog 28 #[.int .i64 (N : Int)] w fun e w' => e = .returned (.int .i64 5) ∧ w' = w := fun w => by
          have := hft w
          rw [if_pos h5] at this
          exact this
        clear hft
        go_wp2_with fail
        refine (hf _).mono ?_
        rintro e w3 ⟨rfl, hw3⟩
        obtain rfl := hw3.symm
        clear hw3 hf
        go_wp2
        go_ret2
        exact Judged.err (by rw [← HJ2.out, jdo_short h5]) hB2
      · by_cases h6 : 279 < N
        · have hf : ∀ w : World, Calls Try.prog 28 #[.int .i64 (N : Int)] w fun e w' => e = .returned (.int .i64 6) ∧ w' = w := fun w => by
            have := hft w
            rw [if_neg h5, if_pos h6] at this
            exact this
          clear hft
          go_wp2_with fail
          refine (hf _).mono ?_
          rintro e w3 ⟨rfl, hw3⟩
          obtain rfl := hw3.symm
          clear hw3 hf
          go_wp2
          go_ret2
          exact Judged.err (by rw [← HJ2.out, jdo_long h5 h6]) hB2
        · have hf : ∀ w : World, Calls Try.prog 28 #[.int .i64 (N : Int)] w fun e w' => e = .returned (.int .i64 0) ∧ w' = w := fun w => by
            have := hft w
            rw [if_neg h5, if_neg h6] at this
            exact this
          clear hft
          go_wp2_with fail
          refine (hf _).mono ?_
          rintro e w3 ⟨rfl, hw3⟩
          obtain rfl := hw3.symm
          clear hw3 hf
          have hri := right_any vo2 ca2 N xs w2 HXL.out (by omega) hxr hr2
          by_cases hg : left xs = good
          · have hd : decide (2 ≤ N ∧ left xs = good) = true := by rw [decide_eq_true_iff]; exact ⟨by omega, hg⟩
            rw [hd] at hri
            clear hd
            have HG : Hid (left xs = good) := hg
            clear hg
            go_wp2_with fail
            refine hri.mono ?_
            rintro e w4 ⟨rfl, hb4⟩
            have hr4 := hr2.below (Nat.le_refl _) hb4
            have hB4 := hB2.trans (hb4.mono hB2.size)
            have hl4 := hli.mono (Nat.le_refl _) hb4.size
            obtain ⟨m, hm⟩ : ∃ m, N = m + 2 := ⟨N - 2, by omega⟩
            have HM : Hid (N = m + 2) := hm
            have em : (N : Int) - 2 = (m : Int) := by omega
            have hmc : m ≤ ca2 := by omega
            obtain ⟨g, off, rfl⟩ := reads_some hr4 (by have := HXL.out; simp; omega)
            clear hm hri hr2 hb4 hB2 hli
            go_wp2
            go_ret2
            have hJf : J = (xs.take m, 0) := by rw [← HJ2.out, jdo_right h5 h6 HG.out, show N - 2 = m by have := HM.out; omega]
            refine ⟨some ⟨g, off, none⟩, m, ca2, ?_, ?_, hmc, ?_, hl4, (fun h => by cases h), hB4⟩
            · rw [hJf]; rfl
            · rw [hJf]; simp; have := HXL.out; have := HM.out; omega
            · rw [hJf]; simp only [List.map_take]; exact hr4.take m
          · have hd : decide (2 ≤ N ∧ left xs = good) = false := by rw [decide_eq_false_iff_not]; exact fun h => hg h.2
            rw [hd] at hri
            clear hd
            have HG : Hid (¬ left xs = good) := hg
            clear hg
            go_wp2_with fail
            refine hri.mono ?_
            rintro e w4 ⟨rfl, hb4⟩
            go_wp2
            go_ret2
            exact Judged.err (by rw [← HJ2.out, jdo_check h5 h6 HG.out]) (hB2.trans (hb4.mono hB2.size))
    · go_enter Try.func12, Try.ntmps12
      go_wp2_with fail
      refine (take_any _ _ _ _ _ _ HB.out HP.out (by omega) h).mono ?_
      rintro e w1 ⟨v1, rfl, hown1, hb1⟩
      have hown1' : w1.ownsRow w.heap.size 4 1 v1 K (os.map .bool) := by have := hown1; rw [HK.out] at this; exact this
      obtain ⟨vo1, ca1, rfl, hca1, hr1, -⟩ := owns_form hown1'
      clear hown1 hown1'
      go_wp2_with fail
      refine (octets_err vo1 K ca1 w1 (by omega) h8).mono ?_
      rintro e w3 ⟨rfl, hw3⟩
      obtain rfl := hw3.symm
      clear hw3
      go_wp2
      go_ret2
      exact Judged.err (by rw [← HJ.out, jdp_whole (P := (os, 0)) rfl (by rw [HK.out]; exact h8)]) hb1
  · have HE : Hid (E ≠ 0) := by show E ≠ 0; omega
    rcases her' with rfl | rfl
    all_goals
      go_enter Try.func12, Try.ntmps12
      go_wp2_with fail
      refine (take_any _ _ _ _ _ _ HB.out HP.out (by omega) h).mono ?_
      rintro e w1 ⟨v1, rfl, hown1, hb1⟩
      go_wp2
      go_ret2
      exact Judged.err (by rw [← HJ.out, jdp_err HE.out]) hb1

set_option maxRecDepth 100000 in
set_option maxHeartbeats 2000000 in
theorem rjudge_any (ao : Option Addr) (cap n : Nat) (bs : List Bool) (J : List Int × Nat) (w : World) (hn : bs.length = n) (hl : n ≤ 100000) (hJ : jdg bs = J) (h : Reads w ao (bs.map .bool)) :
    Calls Try.prog 20 #[.slice ao n cap] w fun e w' => Judged w w' J e := by
  have hkl := tk_len bs 0 []
  have her := tk_err bs 0 []
  obtain ⟨⟨os, E⟩, hP⟩ : ∃ P, tk bs 0 [] = P := ⟨_, rfl⟩
  rw [hP] at hkl her
  have HP : Hid (tk bs 0 [] = (os, E)) := hP
  have HJ : Hid (jdp (os, E) = J) := by show _ = _; rw [← hP]; exact hJ
  have HB : Hid (bs.length = n) := hn
  have hkl' : os.length ≤ n := by rw [hn] at hkl; simpa using hkl
  have her' : E = 0 ∨ E = 4 ∨ E = 5 := by rcases her with h | ⟨h | h, _⟩ <;> simp at h <;> omega
  obtain ⟨K, hK⟩ : ∃ K, os.length = K := ⟨_, rfl⟩
  have HK : Hid (os.length = K) := hK
  rw [hK] at hkl'
  clear hkl her hP hK hn hJ
  rcases her' with rfl | her'
  · by_cases h8 : K % 8 = 0
    · obtain ⟨N, hN⟩ : ∃ N, N = K / 8 := ⟨_, rfl⟩
      have hNK : N ≤ 100000 := by omega
      have HJ2 : Hid (jdo (octsTo os N) N = J) := (jdp_oct (P := (os, 0)) (N := N) rfl (by rw [HK.out]; exact h8) (by rw [HK.out]; exact hN)).symm.trans HJ.out
      have HN : Hid (N = K / 8) := hN
      have t : ((K : Int) % 8 != 0) = false := by rw [bne_eq_false_iff_eq]; omega
      have t2 : (K : Int) / 8 = (N : Int) := by omega
      clear hN h8
      by_cases h5 : N < 5
      · go_enter Try.func20, Try.ntmps20
        go_wp2_with fail
        refine (rtake_any _ _ _ _ _ _ HB.out HP.out (by omega) h).mono ?_
        rintro e w1 ⟨v1, rfl, hown1, hb1⟩
        have hown1' : w1.ownsRow w.heap.size 4 1 v1 K (os.map .bool) := by have := hown1; rw [HK.out] at this; exact this
        obtain ⟨vo1, ca1, rfl, hca1, hr1, -⟩ := owns_form hown1'
        clear hown1 hown1'
        go_wp2
        go_ret2
        exact Judged.err (by rw [← HJ2.out, jdo_short h5]) hb1
      · by_cases h6 : 279 < N
        · go_enter Try.func20, Try.ntmps20
          go_wp2_with fail
          refine (rtake_any _ _ _ _ _ _ HB.out HP.out (by omega) h).mono ?_
          rintro e w1 ⟨v1, rfl, hown1, hb1⟩
          have hown1' : w1.ownsRow w.heap.size 4 1 v1 K (os.map .bool) := by have := hown1; rw [HK.out] at this; exact this
          obtain ⟨vo1, ca1, rfl, hca1, hr1, -⟩ := owns_form hown1'
          clear hown1 hown1'
          go_wp2
          go_ret2
          exact Judged.err (by rw [← HJ2.out, jdo_long h5 h6]) hb1
        · go_enter Try.func20, Try.ntmps20
          go_wp2_with fail
          refine (rtake_any _ _ _ _ _ _ HB.out HP.out (by omega) h).mono ?_
          rintro e w1 ⟨v1, rfl, hown1, hb1⟩
          have hown1' : w1.ownsRow w.heap.size 4 1 v1 K (os.map .bool) := by have := hown1; rw [HK.out] at this; exact this
          obtain ⟨vo1, ca1, rfl, hca1, hr1, -⟩ := owns_form hown1'
          clear hown1 hown1'
          have hsz1 := hb1.size
          go_wp2_with fail
          refine (roctets_any vo1 ca1 K N os w1 HK.out HN.out (by omega) hr1).mono ?_
          rintro e w2 ⟨v2, rfl, hown2, hb2⟩
          have hB2 := hb1.trans (hb2.mono hb1.size)
          have hown2' := owns_lower hown2 hb1.size
          obtain ⟨vo2, ca2, rfl, hca2, hr2, -⟩ := owns_form hown2'
          have hli := owns_lies hown2'
          have HXL : Hid ((octsTo os N).length = N) := octsTo_len _ _
          have hxr := octs_range os N
          generalize octsTo os N = xs at HJ2 hr2 HXL hxr
          clear hown2 hown2' hr1 hb2 h t
          have hri := rright_any vo2 ca2 N xs w2 HXL.out (by omega) hxr hca2 hr2
          by_cases hg : left xs = good
          · have hd : decide (2 ≤ N ∧ left xs = good) = true := by rw [decide_eq_true_iff]; exact ⟨by omega, hg⟩
            rw [hd] at hri
            clear hd
            have HG : Hid (left xs = good) := hg
            clear hg
            go_wp2_with fail
            refine hri.mono ?_
            rintro e w4 ⟨rfl, hb4⟩
            have hr4 := hr2.below (Nat.le_refl _) hb4
            have hB4 := hB2.trans (hb4.mono hB2.size)
            have hl4 := hli.mono (Nat.le_refl _) hb4.size
            obtain ⟨m, hm⟩ : ∃ m, N = m + 2 := ⟨N - 2, by omega⟩
            have HM : Hid (N = m + 2) := hm
            have em : (N : Int) - 2 = (m : Int) := by omega
            have hmc : m ≤ ca2 := by omega
            obtain ⟨g, off, rfl⟩ := reads_some hr4 (by have := HXL.out; simp; omega)
            clear hm hri hr2 hb4 hB2 hli
            go_wp2
            go_ret2
            have hJf : J = (xs.take m, 0) := by rw [← HJ2.out, jdo_right h5 h6 HG.out, show N - 2 = m by have := HM.out; omega]
            refine ⟨some ⟨g, off, none⟩, m, ca2, ?_, ?_, hmc, ?_, hl4, (fun h => by cases h), hB4⟩
            · rw [hJf]; rfl
            · rw [hJf]; simp; have := HXL.out; have := HM.out; omega
            · rw [hJf]; simp only [List.map_take]; exact hr4.take m
          · have hd : decide (2 ≤ N ∧ left xs = good) = false := by rw [decide_eq_false_iff_not]; exact fun h => hg h.2
            rw [hd] at hri
            clear hd
            have HG : Hid (¬ left xs = good) := hg
            clear hg
            go_wp2_with fail
            refine hri.mono ?_
            rintro e w4 ⟨rfl, hb4⟩
            go_wp2
            go_ret2
            exact Judged.err (by rw [← HJ2.out, jdo_check h5 h6 HG.out]) (hB2.trans (hb4.mono hB2.size))
    · have t : ((K : Int) % 8 != 0) = true := by rw [bne_iff_ne]; omega
      have H8 : Hid (K % 8 ≠ 0) := h8
      clear h8
      go_enter Try.func20, Try.ntmps20
      go_wp2_with fail
      refine (rtake_any _ _ _ _ _ _ HB.out HP.out (by omega) h).mono ?_
      rintro e w1 ⟨v1, rfl, hown1, hb1⟩
      have hown1' : w1.ownsRow w.heap.size 4 1 v1 K (os.map .bool) := by have := hown1; rw [HK.out] at this; exact this
      obtain ⟨vo1, ca1, rfl, hca1, hr1, -⟩ := owns_form hown1'
      clear hown1 hown1'
      go_wp2
      go_ret2
      exact Judged.err (by rw [← HJ.out, jdp_whole (P := (os, 0)) rfl (by rw [HK.out]; exact H8.out)]) hb1
  · have HE : Hid (E ≠ 0) := by show E ≠ 0; omega
    rcases her' with rfl | rfl
    all_goals
      go_enter Try.func20, Try.ntmps20
      go_wp2_with fail
      refine (rtake_any _ _ _ _ _ _ HB.out HP.out (by omega) h).mono ?_
      rintro e w1 ⟨v1, rfl, hown1, hb1⟩
      go_wp2
      go_ret2
      exact Judged.err (by rw [← HJ.out, jdp_err HE.out]) hb1
end Go.Proofs.Ytfjfnfofbhikdaa.Tape
