/- The contracts of an Align's Heard, Unit, Out, Sends, Tries, New; of a nil one. -/
import Derived.Test.YtldjglmelbkngaaGreatAlign2
import Derived.Test.YtldjglmelbkngaaGreatAlign3
namespace Go.Proofs.YtldjglmelbkngaaGreat.Tape
open Go.ChangeShapes Go.WideShapes Go.ChangeAt Go.RowKit
set_option linter.unusedVariables false

theorem hears_put {w : World} {b c : Nat} {A : Al} (h : AlignAt w b c A) (s : Int) (B : Bool) (hB : (A.their || s == 2) = B) : AlignAt (w.setCell ⟨b, 2, none⟩ (.bool B)) b c (A.hears s) ∧ Fr b c w (w.setCell ⟨b, 2, none⟩ (.bool B)) := by
  subst hB
  exact ⟨h.put (A' := A.hears s) 2 (.bool (A.their || s == 2)) rfl rfl rfl, (Fr.refl b c w).set 2 _⟩

theorem near_quick (A : Al) (H : Bool) : A.near.quicken H = A.near := if_neg (fun e => absurd e.1 (by show ¬ (2 : Int) = 3; decide))

set_option maxRecDepth 100000 in
set_option maxHeartbeats 4000000 in
theorem heard_al (b c : Nat) (A : Al) (s : Int) (hst : 0 ≤ A.st ∧ A.st ≤ 3) (w : World) (h : AlignAt w b c A) : Calls Tryz.prog 47 #[.pointer (some ⟨b, 0, none⟩), .int .u8 s] w fun e w' => e = .returned (.int .u8 (A.why s)) ∧ AlignAt w' b c (A.heard s) ∧ Fr b c w w' := by
  obtain ⟨⟨c0, -, c2, -, -, c5, -⟩, hz⟩ := h.all
  have z2 := hz 2
  have z5 := hz 5
  clear hz
  by_cases h0 : A.st = 0
  · have HR : Hid (A.heard s = A ∧ A.why s = 0) := ⟨if_pos (.inl h0), if_pos (.inl h0)⟩
    have HA : Hid (AlignAt w b c A) := h
    rw [h0] at c0
    generalize A.heard s = R at *
    generalize A.why s = V at *
    clear h hst h0
    go_enter Tryz.func47, Tryz.ntmps47
    go_wp2
    go_ret
    exact ⟨ret_int HR.out.2.symm, by rw [HR.out.1]; exact HA.out, Fr.refl _ _ _⟩
  by_cases h3 : s = 3
  · subst h3
    have HR : Hid (A.heard 3 = A ∧ A.why 3 = if A.st = 1 then 0 else 8) := ⟨if_pos (.inr rfl), by unfold Al.why; by_cases h1 : A.st = 1 <;> simp [h0, h1]⟩
    have hsp := stops_any b c A w h
    have HA : Hid (AlignAt w b c A) := h
    have n0 : (A.st == 0) = false := by rw [beq_eq_false_iff_ne]; exact h0
    generalize A.heard 3 = R at *
    generalize A.why 3 = V at *
    obtain ⟨z, hz⟩ : ∃ z : Int, z = if A.st = 1 then 0 else 8 := ⟨_, rfl⟩
    rw [← hz] at HR hsp
    generalize A.st = st at *
    clear h hst h0 hz
    go_enter Tryz.func47, Tryz.ntmps47
    go_wp2_with (go_at_call 74; refine hsp.mono ?_; rintro e w1 ⟨rfl, hw1⟩; obtain rfl := hw1.symm; clear hw1)
    go_ret
    exact ⟨ret_int HR.out.2.symm, by rw [HR.out.1]; exact HA.out, Fr.refl _ _ _⟩
  have hhu := hurries_any b c A w h
  obtain ⟨H, hH⟩ : ∃ H, A.hurries = H := ⟨_, rfl⟩
  have HW : Hid (A.why s = 0) := if_pos (.inr (.inr h3))
  rw [hH] at hhu
  have HH : Hid (A.hurries = H) := hH
  have HA : Hid (AlignAt w b c A) := h
  have h123 : A.st = 1 ∨ A.st = 2 ∨ A.st = 3 := by omega
  clear hH hst h
  rcases hth : A.their with _ | _
  · rw [hth] at c2
    rcases h123 with hs | hs | hs
    · by_cases s0 : s = 0
      · subst s0
        have hpp := hears_put HA.out 0 false (by rw [hth]; rfl)
        have HPP : Hid (AlignAt (w.setCell ⟨b, 2, none⟩ (.bool false)) b c (A.hears 0) ∧ Fr b c w (w.setCell ⟨b, 2, none⟩ (.bool false))) := hpp
        have HX : Hid (A.heard 0 = (A.hears 0).near) := by show _ = _; unfold Al.heard; simp [hs]
        have hca := near_al b c (A.hears 0) _ hpp.1
        generalize A.heard 0 = R at *
        generalize A.why 0 = V at *
        rw [hs] at c0
        clear hs hpp hth h3
        go_enter Tryz.func47, Tryz.ntmps47
        go_wp2_with (first | (go_at_call 75; refine hhu.mono ?_; rintro e w1 ⟨rfl, hw1⟩; obtain rfl := hw1.symm; clear hw1))
        go_at_call 77
        refine hca.mono ?_
        rintro e w2 ⟨rfl, h2, hF2⟩
        have HF2 : Hid (Fr b c w w2) := HPP.out.2.trans hF2
        clear hca hF2
        go_wp2
        go_ret
        exact ⟨ret_int HW.out.symm, by rw [HX.out]; exact h2, HF2.out⟩
      by_cases s1 : s = 1
      · subst s1
        have hal := fun W => aligned_any 1 W
        rw [show decide ((1 : Int) = 1 ∨ (1 : Int) = 2) = true from rfl] at hal
        have hpp := hears_put HA.out 1 false (by rw [hth]; rfl)
        have HPP : Hid (AlignAt (w.setCell ⟨b, 2, none⟩ (.bool false)) b c (A.hears 1) ∧ Fr b c w (w.setCell ⟨b, 2, none⟩ (.bool false))) := hpp
        have HX : Hid (A.heard 1 = (A.hears 1).near) := by show _ = _; unfold Al.heard; simp [hs]
        have hca := near_al b c (A.hears 1) _ hpp.1
        generalize A.heard 1 = R at *
        generalize A.why 1 = V at *
        rw [hs] at c0
        clear hs hpp hth h3
        go_enter Tryz.func47, Tryz.ntmps47
        go_wp2_with (first | (go_at_call 75; refine hhu.mono ?_; rintro e w1 ⟨rfl, hw1⟩; obtain rfl := hw1.symm; clear hw1) | (go_at_call 76; refine (hal _).mono ?_; rintro e w1 ⟨rfl, hw1⟩; obtain rfl := hw1.symm; clear hw1))
        go_at_call 77
        refine hca.mono ?_
        rintro e w2 ⟨rfl, h2, hF2⟩
        have HF2 : Hid (Fr b c w w2) := HPP.out.2.trans hF2
        clear hca hF2
        go_wp2
        go_ret
        exact ⟨ret_int HW.out.symm, by rw [HX.out]; exact h2, HF2.out⟩
      by_cases s2 : s = 2
      · subst s2
        have hal := fun W => aligned_any 2 W
        rw [show decide ((2 : Int) = 1 ∨ (2 : Int) = 2) = true from rfl] at hal
        have hpp := hears_put HA.out 2 true (by rw [hth]; rfl)
        have HPP : Hid (AlignAt (w.setCell ⟨b, 2, none⟩ (.bool true)) b c (A.hears 2) ∧ Fr b c w (w.setCell ⟨b, 2, none⟩ (.bool true))) := hpp
        have HX : Hid (A.heard 2 = (A.hears 2).near) := by show _ = _; unfold Al.heard; simp [hs]
        have hca := near_al b c (A.hears 2) _ hpp.1
        generalize A.heard 2 = R at *
        generalize A.why 2 = V at *
        rw [hs] at c0
        clear hs hpp hth h3
        go_enter Tryz.func47, Tryz.ntmps47
        go_wp2_with (first | (go_at_call 75; refine hhu.mono ?_; rintro e w1 ⟨rfl, hw1⟩; obtain rfl := hw1.symm; clear hw1) | (go_at_call 76; refine (hal _).mono ?_; rintro e w1 ⟨rfl, hw1⟩; obtain rfl := hw1.symm; clear hw1))
        go_at_call 77
        refine hca.mono ?_
        rintro e w2 ⟨rfl, h2, hF2⟩
        have HF2 : Hid (Fr b c w w2) := HPP.out.2.trans hF2
        clear hca hF2
        go_wp2
        go_ret
        exact ⟨ret_int HW.out.symm, by rw [HX.out]; exact h2, HF2.out⟩
      have hal := fun W => aligned_any s W
      have eal : decide (s = 1 ∨ s = 2) = false := by simp [s1, s2]
      rw [eal] at hal
      have hpp := hears_put HA.out s (s == 2) (by rw [hth]; rfl)
      have HPP : Hid (AlignAt (w.setCell ⟨b, 2, none⟩ (.bool (s == 2))) b c (A.hears s) ∧ Fr b c w (w.setCell ⟨b, 2, none⟩ (.bool (s == 2)))) := hpp
      have HX : Hid (A.heard s = A.hears s) := by show _ = _; unfold Al.heard; simp [hs, h3, s0, s1, s2]
      generalize A.heard s = R at *
      generalize A.why s = V at *
      rw [hs] at c0
      clear hs hpp hth
      go_enter Tryz.func47, Tryz.ntmps47
      go_wp2_with (first | (go_at_call 75; refine hhu.mono ?_; rintro e w1 ⟨rfl, hw1⟩; obtain rfl := hw1.symm; clear hw1) | (go_at_call 76; refine (hal _).mono ?_; rintro e w1 ⟨rfl, hw1⟩; obtain rfl := hw1.symm; clear hw1))
      go_ret
      exact ⟨ret_int HW.out.symm, by rw [HX.out]; exact HPP.out.1, HPP.out.2⟩
    · by_cases s0 : s = 0
      · subst s0
        have hal := fun W => aligned_any 0 W
        rw [show decide ((0 : Int) = 1 ∨ (0 : Int) = 2) = false from rfl] at hal
        have hpp := hears_put HA.out 0 false (by rw [hth]; rfl)
        have HPP : Hid (AlignAt (w.setCell ⟨b, 2, none⟩ (.bool false)) b c (A.hears 0) ∧ Fr b c w (w.setCell ⟨b, 2, none⟩ (.bool false))) := hpp
        have HX : Hid (A.heard 0 = A.hears 0) := by show _ = _; unfold Al.heard; simp [hs]
        generalize A.heard 0 = R at *
        generalize A.why 0 = V at *
        rw [hs] at c0
        clear hs hpp hth h3
        go_enter Tryz.func47, Tryz.ntmps47
        go_wp2_with (first | (go_at_call 75; refine hhu.mono ?_; rintro e w1 ⟨rfl, hw1⟩; obtain rfl := hw1.symm; clear hw1) | (go_at_call 76; refine (hal _).mono ?_; rintro e w1 ⟨rfl, hw1⟩; obtain rfl := hw1.symm; clear hw1))
        go_ret
        exact ⟨ret_int HW.out.symm, by rw [HX.out]; exact HPP.out.1, HPP.out.2⟩
      by_cases s1 : s = 1
      · subst s1
        have hal := fun W => aligned_any 1 W
        rw [show decide ((1 : Int) = 1 ∨ (1 : Int) = 2) = true from rfl] at hal
        have hpp := hears_put HA.out 1 false (by rw [hth]; rfl)
        have HPP : Hid (AlignAt (w.setCell ⟨b, 2, none⟩ (.bool false)) b c (A.hears 1) ∧ Fr b c w (w.setCell ⟨b, 2, none⟩ (.bool false))) := hpp
        have HX : Hid (A.heard 1 = Al.prove { A.hears 1 with tries := 0 }) := by show _ = _; unfold Al.heard; simp [hs]
        have hp2 := hpp.1.put (A' := { A.hears 1 with tries := 0 }) 5 (.int .i64 0) rfl rfl rfl
        have HP2 : Hid (Fr b c w ((w.setCell ⟨b, 2, none⟩ (.bool false)).setCell ⟨b, 5, none⟩ (.int .i64 0))) := hpp.2.trans ((Fr.refl b c _).set 5 _)
        have hca := prove_al b c _ _ hp2
        generalize A.heard 1 = R at *
        generalize A.why 1 = V at *
        rw [hs] at c0
        clear hs hpp hth hp2 h3
        go_enter Tryz.func47, Tryz.ntmps47
        go_wp2_with (first | (go_at_call 75; refine hhu.mono ?_; rintro e w1 ⟨rfl, hw1⟩; obtain rfl := hw1.symm; clear hw1) | (go_at_call 76; refine (hal _).mono ?_; rintro e w1 ⟨rfl, hw1⟩; obtain rfl := hw1.symm; clear hw1))
        go_at_call 78
        refine hca.mono ?_
        rintro e w2 ⟨rfl, h2, hF2⟩
        have HF2 : Hid (Fr b c w w2) := HP2.out.trans hF2
        clear hca hF2
        go_wp2
        go_ret
        exact ⟨ret_int HW.out.symm, by rw [HX.out]; exact h2, HF2.out⟩
      by_cases s2 : s = 2
      · subst s2
        have hal := fun W => aligned_any 2 W
        rw [show decide ((2 : Int) = 1 ∨ (2 : Int) = 2) = true from rfl] at hal
        have hpp := hears_put HA.out 2 true (by rw [hth]; rfl)
        have HPP : Hid (AlignAt (w.setCell ⟨b, 2, none⟩ (.bool true)) b c (A.hears 2) ∧ Fr b c w (w.setCell ⟨b, 2, none⟩ (.bool true))) := hpp
        have HX : Hid (A.heard 2 = Al.prove { A.hears 2 with tries := 0 }) := by show _ = _; unfold Al.heard; simp [hs]
        have hp2 := hpp.1.put (A' := { A.hears 2 with tries := 0 }) 5 (.int .i64 0) rfl rfl rfl
        have HP2 : Hid (Fr b c w ((w.setCell ⟨b, 2, none⟩ (.bool true)).setCell ⟨b, 5, none⟩ (.int .i64 0))) := hpp.2.trans ((Fr.refl b c _).set 5 _)
        have hca := prove_al b c _ _ hp2
        generalize A.heard 2 = R at *
        generalize A.why 2 = V at *
        rw [hs] at c0
        clear hs hpp hth hp2 h3
        go_enter Tryz.func47, Tryz.ntmps47
        go_wp2_with (first | (go_at_call 75; refine hhu.mono ?_; rintro e w1 ⟨rfl, hw1⟩; obtain rfl := hw1.symm; clear hw1) | (go_at_call 76; refine (hal _).mono ?_; rintro e w1 ⟨rfl, hw1⟩; obtain rfl := hw1.symm; clear hw1))
        go_at_call 78
        refine hca.mono ?_
        rintro e w2 ⟨rfl, h2, hF2⟩
        have HF2 : Hid (Fr b c w w2) := HP2.out.trans hF2
        clear hca hF2
        go_wp2
        go_ret
        exact ⟨ret_int HW.out.symm, by rw [HX.out]; exact h2, HF2.out⟩
      have hal := fun W => aligned_any s W
      have eal : decide (s = 1 ∨ s = 2) = false := by simp [s1, s2]
      rw [eal] at hal
      have hpp := hears_put HA.out s (s == 2) (by rw [hth]; rfl)
      have HPP : Hid (AlignAt (w.setCell ⟨b, 2, none⟩ (.bool (s == 2))) b c (A.hears s) ∧ Fr b c w (w.setCell ⟨b, 2, none⟩ (.bool (s == 2)))) := hpp
      have HX : Hid (A.heard s = A.hears s) := by show _ = _; unfold Al.heard; simp [hs, h3, s1, s2]
      generalize A.heard s = R at *
      generalize A.why s = V at *
      rw [hs] at c0
      clear hs hpp hth
      go_enter Tryz.func47, Tryz.ntmps47
      go_wp2_with (first | (go_at_call 75; refine hhu.mono ?_; rintro e w1 ⟨rfl, hw1⟩; obtain rfl := hw1.symm; clear hw1) | (go_at_call 76; refine (hal _).mono ?_; rintro e w1 ⟨rfl, hw1⟩; obtain rfl := hw1.symm; clear hw1))
      go_ret
      exact ⟨ret_int HW.out.symm, by rw [HX.out]; exact HPP.out.1, HPP.out.2⟩
    · by_cases s0 : s = 0
      · subst s0
        have hpp := hears_put HA.out 0 false (by rw [hth]; rfl)
        have HPP : Hid (AlignAt (w.setCell ⟨b, 2, none⟩ (.bool false)) b c (A.hears 0) ∧ Fr b c w (w.setCell ⟨b, 2, none⟩ (.bool false))) := hpp
        have HX : Hid (A.heard 0 = (A.hears 0).near) := by show _ = _; unfold Al.heard; simp [hs]
        have hca := near_al b c (A.hears 0) _ hpp.1
        generalize A.heard 0 = R at *
        generalize A.why 0 = V at *
        rw [hs] at c0
        clear hs hpp hth h3
        go_enter Tryz.func47, Tryz.ntmps47
        go_wp2_with (first | (go_at_call 75; refine hhu.mono ?_; rintro e w1 ⟨rfl, hw1⟩; obtain rfl := hw1.symm; clear hw1))
        go_at_call 77
        refine hca.mono ?_
        rintro e w2 ⟨rfl, h2, hF2⟩
        have HF2 : Hid (Fr b c w w2) := HPP.out.2.trans hF2
        have hqu := quicken_al b c _ H w2 h2
        rw [near_quick] at hqu
        clear hca hF2
        go_wp2_with (go_at_call 79; refine hqu.mono ?_; rintro e w3 ⟨rfl, h3, hF3⟩)
        go_ret
        exact ⟨ret_int HW.out.symm, by rw [HX.out]; exact h3, HF2.out.trans hF3⟩
      by_cases s1 : s = 1
      · subst s1
        have hpp := hears_put HA.out 1 false (by rw [hth]; rfl)
        have HPP : Hid (AlignAt (w.setCell ⟨b, 2, none⟩ (.bool false)) b c (A.hears 1) ∧ Fr b c w (w.setCell ⟨b, 2, none⟩ (.bool false))) := hpp
        have HX : Hid (A.heard 1 = (A.hears 1).quicken H) := by show _ = _; unfold Al.heard; simp [hs, HH.out]
        have hca := quicken_al b c (A.hears 1) H _ hpp.1
        generalize A.heard 1 = R at *
        generalize A.why 1 = V at *
        rw [hs] at c0
        clear hs hpp hth h3
        go_enter Tryz.func47, Tryz.ntmps47
        go_wp2_with (first | (go_at_call 75; refine hhu.mono ?_; rintro e w1 ⟨rfl, hw1⟩; obtain rfl := hw1.symm; clear hw1))
        go_at_call 79
        refine hca.mono ?_
        rintro e w2 ⟨rfl, h2, hF2⟩
        have HF2 : Hid (Fr b c w w2) := HPP.out.2.trans hF2
        clear hca hF2
        go_wp2
        go_ret
        exact ⟨ret_int HW.out.symm, by rw [HX.out]; exact h2, HF2.out⟩
      by_cases s2 : s = 2
      · subst s2
        have hpp := hears_put HA.out 2 true (by rw [hth]; rfl)
        have HPP : Hid (AlignAt (w.setCell ⟨b, 2, none⟩ (.bool true)) b c (A.hears 2) ∧ Fr b c w (w.setCell ⟨b, 2, none⟩ (.bool true))) := hpp
        have HX : Hid (A.heard 2 = (A.hears 2).quicken H) := by show _ = _; unfold Al.heard; simp [hs, HH.out]
        have hca := quicken_al b c (A.hears 2) H _ hpp.1
        generalize A.heard 2 = R at *
        generalize A.why 2 = V at *
        rw [hs] at c0
        clear hs hpp hth h3
        go_enter Tryz.func47, Tryz.ntmps47
        go_wp2_with (first | (go_at_call 75; refine hhu.mono ?_; rintro e w1 ⟨rfl, hw1⟩; obtain rfl := hw1.symm; clear hw1))
        go_at_call 79
        refine hca.mono ?_
        rintro e w2 ⟨rfl, h2, hF2⟩
        have HF2 : Hid (Fr b c w w2) := HPP.out.2.trans hF2
        clear hca hF2
        go_wp2
        go_ret
        exact ⟨ret_int HW.out.symm, by rw [HX.out]; exact h2, HF2.out⟩
      have hpp := hears_put HA.out s (s == 2) (by rw [hth]; rfl)
      have HPP : Hid (AlignAt (w.setCell ⟨b, 2, none⟩ (.bool (s == 2))) b c (A.hears s) ∧ Fr b c w (w.setCell ⟨b, 2, none⟩ (.bool (s == 2)))) := hpp
      have HX : Hid (A.heard s = (A.hears s).quicken H) := by show _ = _; unfold Al.heard; simp [hs, h3, s0, HH.out]
      have hca := quicken_al b c (A.hears s) H _ hpp.1
      generalize A.heard s = R at *
      generalize A.why s = V at *
      rw [hs] at c0
      clear hs hpp hth
      go_enter Tryz.func47, Tryz.ntmps47
      go_wp2_with (first | (go_at_call 75; refine hhu.mono ?_; rintro e w1 ⟨rfl, hw1⟩; obtain rfl := hw1.symm; clear hw1))
      go_at_call 79
      refine hca.mono ?_
      rintro e w2 ⟨rfl, h2, hF2⟩
      have HF2 : Hid (Fr b c w w2) := HPP.out.2.trans hF2
      clear hca hF2
      go_wp2
      go_ret
      exact ⟨ret_int HW.out.symm, by rw [HX.out]; exact h2, HF2.out⟩
  · rw [hth] at c2
    rcases h123 with hs | hs | hs
    · by_cases s0 : s = 0
      · subst s0
        have hpp := hears_put HA.out 0 true (by rw [hth]; simp)
        have HPP : Hid (AlignAt (w.setCell ⟨b, 2, none⟩ (.bool true)) b c (A.hears 0) ∧ Fr b c w (w.setCell ⟨b, 2, none⟩ (.bool true))) := hpp
        have HX : Hid (A.heard 0 = (A.hears 0).near) := by show _ = _; unfold Al.heard; simp [hs]
        have hca := near_al b c (A.hears 0) _ hpp.1
        generalize A.heard 0 = R at *
        generalize A.why 0 = V at *
        rw [hs] at c0
        clear hs hpp hth h3
        go_enter Tryz.func47, Tryz.ntmps47
        go_wp2_with (first | (go_at_call 75; refine hhu.mono ?_; rintro e w1 ⟨rfl, hw1⟩; obtain rfl := hw1.symm; clear hw1))
        go_at_call 77
        refine hca.mono ?_
        rintro e w2 ⟨rfl, h2, hF2⟩
        have HF2 : Hid (Fr b c w w2) := HPP.out.2.trans hF2
        clear hca hF2
        go_wp2
        go_ret
        exact ⟨ret_int HW.out.symm, by rw [HX.out]; exact h2, HF2.out⟩
      by_cases s1 : s = 1
      · subst s1
        have hal := fun W => aligned_any 1 W
        rw [show decide ((1 : Int) = 1 ∨ (1 : Int) = 2) = true from rfl] at hal
        have hpp := hears_put HA.out 1 true (by rw [hth]; simp)
        have HPP : Hid (AlignAt (w.setCell ⟨b, 2, none⟩ (.bool true)) b c (A.hears 1) ∧ Fr b c w (w.setCell ⟨b, 2, none⟩ (.bool true))) := hpp
        have HX : Hid (A.heard 1 = (A.hears 1).near) := by show _ = _; unfold Al.heard; simp [hs]
        have hca := near_al b c (A.hears 1) _ hpp.1
        generalize A.heard 1 = R at *
        generalize A.why 1 = V at *
        rw [hs] at c0
        clear hs hpp hth h3
        go_enter Tryz.func47, Tryz.ntmps47
        go_wp2_with (first | (go_at_call 75; refine hhu.mono ?_; rintro e w1 ⟨rfl, hw1⟩; obtain rfl := hw1.symm; clear hw1) | (go_at_call 76; refine (hal _).mono ?_; rintro e w1 ⟨rfl, hw1⟩; obtain rfl := hw1.symm; clear hw1))
        go_at_call 77
        refine hca.mono ?_
        rintro e w2 ⟨rfl, h2, hF2⟩
        have HF2 : Hid (Fr b c w w2) := HPP.out.2.trans hF2
        clear hca hF2
        go_wp2
        go_ret
        exact ⟨ret_int HW.out.symm, by rw [HX.out]; exact h2, HF2.out⟩
      by_cases s2 : s = 2
      · subst s2
        have hal := fun W => aligned_any 2 W
        rw [show decide ((2 : Int) = 1 ∨ (2 : Int) = 2) = true from rfl] at hal
        have hpp := hears_put HA.out 2 true (by rw [hth]; simp)
        have HPP : Hid (AlignAt (w.setCell ⟨b, 2, none⟩ (.bool true)) b c (A.hears 2) ∧ Fr b c w (w.setCell ⟨b, 2, none⟩ (.bool true))) := hpp
        have HX : Hid (A.heard 2 = (A.hears 2).near) := by show _ = _; unfold Al.heard; simp [hs]
        have hca := near_al b c (A.hears 2) _ hpp.1
        generalize A.heard 2 = R at *
        generalize A.why 2 = V at *
        rw [hs] at c0
        clear hs hpp hth h3
        go_enter Tryz.func47, Tryz.ntmps47
        go_wp2_with (first | (go_at_call 75; refine hhu.mono ?_; rintro e w1 ⟨rfl, hw1⟩; obtain rfl := hw1.symm; clear hw1) | (go_at_call 76; refine (hal _).mono ?_; rintro e w1 ⟨rfl, hw1⟩; obtain rfl := hw1.symm; clear hw1))
        go_at_call 77
        refine hca.mono ?_
        rintro e w2 ⟨rfl, h2, hF2⟩
        have HF2 : Hid (Fr b c w w2) := HPP.out.2.trans hF2
        clear hca hF2
        go_wp2
        go_ret
        exact ⟨ret_int HW.out.symm, by rw [HX.out]; exact h2, HF2.out⟩
      have hal := fun W => aligned_any s W
      have eal : decide (s = 1 ∨ s = 2) = false := by simp [s1, s2]
      rw [eal] at hal
      have hpp := hears_put HA.out s true (by rw [hth]; simp)
      have HPP : Hid (AlignAt (w.setCell ⟨b, 2, none⟩ (.bool true)) b c (A.hears s) ∧ Fr b c w (w.setCell ⟨b, 2, none⟩ (.bool true))) := hpp
      have HX : Hid (A.heard s = A.hears s) := by show _ = _; unfold Al.heard; simp [hs, h3, s0, s1, s2]
      generalize A.heard s = R at *
      generalize A.why s = V at *
      rw [hs] at c0
      clear hs hpp hth
      go_enter Tryz.func47, Tryz.ntmps47
      go_wp2_with (first | (go_at_call 75; refine hhu.mono ?_; rintro e w1 ⟨rfl, hw1⟩; obtain rfl := hw1.symm; clear hw1) | (go_at_call 76; refine (hal _).mono ?_; rintro e w1 ⟨rfl, hw1⟩; obtain rfl := hw1.symm; clear hw1))
      go_ret
      exact ⟨ret_int HW.out.symm, by rw [HX.out]; exact HPP.out.1, HPP.out.2⟩
    · by_cases s0 : s = 0
      · subst s0
        have hal := fun W => aligned_any 0 W
        rw [show decide ((0 : Int) = 1 ∨ (0 : Int) = 2) = false from rfl] at hal
        have hpp := hears_put HA.out 0 true (by rw [hth]; simp)
        have HPP : Hid (AlignAt (w.setCell ⟨b, 2, none⟩ (.bool true)) b c (A.hears 0) ∧ Fr b c w (w.setCell ⟨b, 2, none⟩ (.bool true))) := hpp
        have HX : Hid (A.heard 0 = A.hears 0) := by show _ = _; unfold Al.heard; simp [hs]
        generalize A.heard 0 = R at *
        generalize A.why 0 = V at *
        rw [hs] at c0
        clear hs hpp hth h3
        go_enter Tryz.func47, Tryz.ntmps47
        go_wp2_with (first | (go_at_call 75; refine hhu.mono ?_; rintro e w1 ⟨rfl, hw1⟩; obtain rfl := hw1.symm; clear hw1) | (go_at_call 76; refine (hal _).mono ?_; rintro e w1 ⟨rfl, hw1⟩; obtain rfl := hw1.symm; clear hw1))
        go_ret
        exact ⟨ret_int HW.out.symm, by rw [HX.out]; exact HPP.out.1, HPP.out.2⟩
      by_cases s1 : s = 1
      · subst s1
        have hal := fun W => aligned_any 1 W
        rw [show decide ((1 : Int) = 1 ∨ (1 : Int) = 2) = true from rfl] at hal
        have hpp := hears_put HA.out 1 true (by rw [hth]; simp)
        have HPP : Hid (AlignAt (w.setCell ⟨b, 2, none⟩ (.bool true)) b c (A.hears 1) ∧ Fr b c w (w.setCell ⟨b, 2, none⟩ (.bool true))) := hpp
        have HX : Hid (A.heard 1 = Al.prove { A.hears 1 with tries := 0 }) := by show _ = _; unfold Al.heard; simp [hs]
        have hp2 := hpp.1.put (A' := { A.hears 1 with tries := 0 }) 5 (.int .i64 0) rfl rfl rfl
        have HP2 : Hid (Fr b c w ((w.setCell ⟨b, 2, none⟩ (.bool true)).setCell ⟨b, 5, none⟩ (.int .i64 0))) := hpp.2.trans ((Fr.refl b c _).set 5 _)
        have hca := prove_al b c _ _ hp2
        generalize A.heard 1 = R at *
        generalize A.why 1 = V at *
        rw [hs] at c0
        clear hs hpp hth hp2 h3
        go_enter Tryz.func47, Tryz.ntmps47
        go_wp2_with (first | (go_at_call 75; refine hhu.mono ?_; rintro e w1 ⟨rfl, hw1⟩; obtain rfl := hw1.symm; clear hw1) | (go_at_call 76; refine (hal _).mono ?_; rintro e w1 ⟨rfl, hw1⟩; obtain rfl := hw1.symm; clear hw1))
        go_at_call 78
        refine hca.mono ?_
        rintro e w2 ⟨rfl, h2, hF2⟩
        have HF2 : Hid (Fr b c w w2) := HP2.out.trans hF2
        clear hca hF2
        go_wp2
        go_ret
        exact ⟨ret_int HW.out.symm, by rw [HX.out]; exact h2, HF2.out⟩
      by_cases s2 : s = 2
      · subst s2
        have hal := fun W => aligned_any 2 W
        rw [show decide ((2 : Int) = 1 ∨ (2 : Int) = 2) = true from rfl] at hal
        have hpp := hears_put HA.out 2 true (by rw [hth]; simp)
        have HPP : Hid (AlignAt (w.setCell ⟨b, 2, none⟩ (.bool true)) b c (A.hears 2) ∧ Fr b c w (w.setCell ⟨b, 2, none⟩ (.bool true))) := hpp
        have HX : Hid (A.heard 2 = Al.prove { A.hears 2 with tries := 0 }) := by show _ = _; unfold Al.heard; simp [hs]
        have hp2 := hpp.1.put (A' := { A.hears 2 with tries := 0 }) 5 (.int .i64 0) rfl rfl rfl
        have HP2 : Hid (Fr b c w ((w.setCell ⟨b, 2, none⟩ (.bool true)).setCell ⟨b, 5, none⟩ (.int .i64 0))) := hpp.2.trans ((Fr.refl b c _).set 5 _)
        have hca := prove_al b c _ _ hp2
        generalize A.heard 2 = R at *
        generalize A.why 2 = V at *
        rw [hs] at c0
        clear hs hpp hth hp2 h3
        go_enter Tryz.func47, Tryz.ntmps47
        go_wp2_with (first | (go_at_call 75; refine hhu.mono ?_; rintro e w1 ⟨rfl, hw1⟩; obtain rfl := hw1.symm; clear hw1) | (go_at_call 76; refine (hal _).mono ?_; rintro e w1 ⟨rfl, hw1⟩; obtain rfl := hw1.symm; clear hw1))
        go_at_call 78
        refine hca.mono ?_
        rintro e w2 ⟨rfl, h2, hF2⟩
        have HF2 : Hid (Fr b c w w2) := HP2.out.trans hF2
        clear hca hF2
        go_wp2
        go_ret
        exact ⟨ret_int HW.out.symm, by rw [HX.out]; exact h2, HF2.out⟩
      have hal := fun W => aligned_any s W
      have eal : decide (s = 1 ∨ s = 2) = false := by simp [s1, s2]
      rw [eal] at hal
      have hpp := hears_put HA.out s true (by rw [hth]; simp)
      have HPP : Hid (AlignAt (w.setCell ⟨b, 2, none⟩ (.bool true)) b c (A.hears s) ∧ Fr b c w (w.setCell ⟨b, 2, none⟩ (.bool true))) := hpp
      have HX : Hid (A.heard s = A.hears s) := by show _ = _; unfold Al.heard; simp [hs, h3, s1, s2]
      generalize A.heard s = R at *
      generalize A.why s = V at *
      rw [hs] at c0
      clear hs hpp hth
      go_enter Tryz.func47, Tryz.ntmps47
      go_wp2_with (first | (go_at_call 75; refine hhu.mono ?_; rintro e w1 ⟨rfl, hw1⟩; obtain rfl := hw1.symm; clear hw1) | (go_at_call 76; refine (hal _).mono ?_; rintro e w1 ⟨rfl, hw1⟩; obtain rfl := hw1.symm; clear hw1))
      go_ret
      exact ⟨ret_int HW.out.symm, by rw [HX.out]; exact HPP.out.1, HPP.out.2⟩
    · by_cases s0 : s = 0
      · subst s0
        have hpp := hears_put HA.out 0 true (by rw [hth]; simp)
        have HPP : Hid (AlignAt (w.setCell ⟨b, 2, none⟩ (.bool true)) b c (A.hears 0) ∧ Fr b c w (w.setCell ⟨b, 2, none⟩ (.bool true))) := hpp
        have HX : Hid (A.heard 0 = (A.hears 0).near) := by show _ = _; unfold Al.heard; simp [hs]
        have hca := near_al b c (A.hears 0) _ hpp.1
        generalize A.heard 0 = R at *
        generalize A.why 0 = V at *
        rw [hs] at c0
        clear hs hpp hth h3
        go_enter Tryz.func47, Tryz.ntmps47
        go_wp2_with (first | (go_at_call 75; refine hhu.mono ?_; rintro e w1 ⟨rfl, hw1⟩; obtain rfl := hw1.symm; clear hw1))
        go_at_call 77
        refine hca.mono ?_
        rintro e w2 ⟨rfl, h2, hF2⟩
        have HF2 : Hid (Fr b c w w2) := HPP.out.2.trans hF2
        have hqu := quicken_al b c _ H w2 h2
        rw [near_quick] at hqu
        clear hca hF2
        go_wp2_with (go_at_call 79; refine hqu.mono ?_; rintro e w3 ⟨rfl, h3, hF3⟩)
        go_ret
        exact ⟨ret_int HW.out.symm, by rw [HX.out]; exact h3, HF2.out.trans hF3⟩
      by_cases s1 : s = 1
      · subst s1
        have hpp := hears_put HA.out 1 true (by rw [hth]; simp)
        have HPP : Hid (AlignAt (w.setCell ⟨b, 2, none⟩ (.bool true)) b c (A.hears 1) ∧ Fr b c w (w.setCell ⟨b, 2, none⟩ (.bool true))) := hpp
        have HX : Hid (A.heard 1 = (A.hears 1).quicken H) := by show _ = _; unfold Al.heard; simp [hs, HH.out]
        have hca := quicken_al b c (A.hears 1) H _ hpp.1
        generalize A.heard 1 = R at *
        generalize A.why 1 = V at *
        rw [hs] at c0
        clear hs hpp hth h3
        go_enter Tryz.func47, Tryz.ntmps47
        go_wp2_with (first | (go_at_call 75; refine hhu.mono ?_; rintro e w1 ⟨rfl, hw1⟩; obtain rfl := hw1.symm; clear hw1))
        go_at_call 79
        refine hca.mono ?_
        rintro e w2 ⟨rfl, h2, hF2⟩
        have HF2 : Hid (Fr b c w w2) := HPP.out.2.trans hF2
        clear hca hF2
        go_wp2
        go_ret
        exact ⟨ret_int HW.out.symm, by rw [HX.out]; exact h2, HF2.out⟩
      by_cases s2 : s = 2
      · subst s2
        have hpp := hears_put HA.out 2 true (by rw [hth]; simp)
        have HPP : Hid (AlignAt (w.setCell ⟨b, 2, none⟩ (.bool true)) b c (A.hears 2) ∧ Fr b c w (w.setCell ⟨b, 2, none⟩ (.bool true))) := hpp
        have HX : Hid (A.heard 2 = (A.hears 2).quicken H) := by show _ = _; unfold Al.heard; simp [hs, HH.out]
        have hca := quicken_al b c (A.hears 2) H _ hpp.1
        generalize A.heard 2 = R at *
        generalize A.why 2 = V at *
        rw [hs] at c0
        clear hs hpp hth h3
        go_enter Tryz.func47, Tryz.ntmps47
        go_wp2_with (first | (go_at_call 75; refine hhu.mono ?_; rintro e w1 ⟨rfl, hw1⟩; obtain rfl := hw1.symm; clear hw1))
        go_at_call 79
        refine hca.mono ?_
        rintro e w2 ⟨rfl, h2, hF2⟩
        have HF2 : Hid (Fr b c w w2) := HPP.out.2.trans hF2
        clear hca hF2
        go_wp2
        go_ret
        exact ⟨ret_int HW.out.symm, by rw [HX.out]; exact h2, HF2.out⟩
      have hpp := hears_put HA.out s true (by rw [hth]; simp)
      have HPP : Hid (AlignAt (w.setCell ⟨b, 2, none⟩ (.bool true)) b c (A.hears s) ∧ Fr b c w (w.setCell ⟨b, 2, none⟩ (.bool true))) := hpp
      have HX : Hid (A.heard s = (A.hears s).quicken H) := by show _ = _; unfold Al.heard; simp [hs, h3, s0, HH.out]
      have hca := quicken_al b c (A.hears s) H _ hpp.1
      generalize A.heard s = R at *
      generalize A.why s = V at *
      rw [hs] at c0
      clear hs hpp hth
      go_enter Tryz.func47, Tryz.ntmps47
      go_wp2_with (first | (go_at_call 75; refine hhu.mono ?_; rintro e w1 ⟨rfl, hw1⟩; obtain rfl := hw1.symm; clear hw1))
      go_at_call 79
      refine hca.mono ?_
      rintro e w2 ⟨rfl, h2, hF2⟩
      have HF2 : Hid (Fr b c w w2) := HPP.out.2.trans hF2
      clear hca hF2
      go_wp2
      go_ret
      exact ⟨ret_int HW.out.symm, by rw [HX.out]; exact h2, HF2.out⟩
end Go.Proofs.YtldjglmelbkngaaGreat.Tape
