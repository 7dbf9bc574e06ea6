/- The walk of the law StuffParts: it returns true and writes nothing that was there. -/
import Derived.Test.YtokjieejnahfmaaStuff4
namespace Go.Proofs.Ytokjieejnahfmaa.Tape
open Go.ChangeShapes Go.WideShapes Go.ChangeAt Go.RowKit

theorem put_two (a b : List Bool) : put (a ++ [false] ++ b) = put (a ++ [false]) ++ put b := put_parts a b 0
theorem put_bound (l : List Bool) : (put l).length ≤ 2 * l.length := by
  have h1 := put_len l 0; have h2 := sz_le l 0 (by omega); show (putFrom l 0).length ≤ _; omega

set_option maxRecDepth 100000 in
set_option maxHeartbeats 2000000 in
theorem parts_walk (ao bo : Option Addr) (cap cap2 : Nat) (xs ys : List Int) (w : World) (hr : Reads w ao (xs.map (.int .u8))) (hx : ∀ x ∈ xs, 0 ≤ x ∧ x ≤ 255) (hs : Reads w bo (ys.map (.int .u8))) (hy : ∀ x ∈ ys, 0 ≤ x ∧ x ≤ 255) :
    Calls Try.prog 6 #[.slice ao xs.length cap, .slice bo ys.length cap2] w fun e w' => e = .returned (.bool true) ∧ Below w.heap.size w w' := by
  obtain ⟨i0, hi, hz0, hz1, hz2⟩ := info_parts info4
  by_cases hlen : 100 < xs.length ∨ 100 < ys.length
  · by_cases hx60 : 100 < xs.length
    · go_enter Try.func6, Try.ntmps6
      go_wp2_with fail
      refine (awake4_any _).mono ?_
      rintro e w1 ⟨rfl, hb1⟩
      go_wp2_with fail
      refine (awake4_any _).mono ?_
      rintro e w2 ⟨rfl, hb2⟩
      go_wp2
      go_ret
      exact ⟨rfl, hb1.trans (hb2.mono hb1.size)⟩
    · have hy60 : 100 < ys.length := by omega
      clear hlen
      go_enter Try.func6, Try.ntmps6
      go_wp2_with fail
      refine (awake4_any _).mono ?_
      rintro e w1 ⟨rfl, hb1⟩
      go_wp2_with fail
      refine (awake4_any _).mono ?_
      rintro e w2 ⟨rfl, hb2⟩
      go_wp2
      go_ret
      exact ⟨rfl, hb1.trans (hb2.mono hb1.size)⟩
  · have hl : xs.length ≤ 100 := by omega
    have hl2 : ys.length ≤ 100 := by omega
    clear hlen
    go_enter Try.func6, Try.ntmps6
    go_wp2_with fail
    refine (awake4_any _).mono ?_
    rintro e w1 ⟨rfl, hb1⟩
    have hr1 := hr.below (Nat.le_refl _) hb1
    have hs1 := hs.below (Nat.le_refl _) hb1
    go_wp2_with fail
    refine (rbits_any _ _ _ _ (by omega) hx hr1).mono ?_
    rintro e w2 ⟨v2, rfl, hown2, hb2⟩
    have hs2 := hs1.below (Nat.le_refl _) hb2
    have hB2 := hb1.trans (hb2.mono hb1.size)
    have hsz2 := hb2.size
    have hal : (bits xs).length = 8 * xs.length := bits_len xs
    generalize bits xs = ms at hown2 hal
    obtain ⟨M, hM⟩ : ∃ M, 8 * xs.length = M := ⟨_, rfl⟩
    rw [hM] at hal hown2
    have hM' : M ≤ 800 := by omega
    have HA : Hid (ms.length = M) := hal
    clear hM hal hr hr1 hs hs2 hx
    go_wp2_with (at_builtin; refine wpList_append_own _ rfl _ _ 26 rfl w1.heap.size 4 i0 (.bool false) 1 1 Try.underlying26 hi hz0 hz1 hz2 rfl (by decide) _ _ _ rfl (hown2.alloc _) ⟨w2.heap.size, 0, none⟩ 1 1 [.bool false] rfl rfl (cell_one_new _ _ _) (by simp [Value.oneCell']) (by unfold maxLen; omega) (by omega) (by simp; omega) ?_; intro v3 w3 hown3 hgrow _; have hb3 : Below w1.heap.size w2 w3 := ((Below.refl _ _).alloc hsz2 (.cells #[.bool false] 4)).grown (show (w2.alloc (.cells #[.bool false] 4)).grownBy w3 v2.ownBlock from hgrow) (by simp; omega) (fun k hk => (hown2.lt k hk).1))
    have hb13 := hb2.trans hb3
    have hs3 := hs1.below (Nat.le_refl _) hb13
    have hB3 := hb1.trans (hb13.mono hb1.size)
    obtain ⟨A, hA⟩ : ∃ A, A = ms ++ [false] := ⟨_, rfl⟩
    have HAD : Hid (A = ms ++ [false]) := hA
    have hown3' : w3.ownsRow w1.heap.size 4 1 v3 (M + 1) (A.map .bool) := by rw [hA]; simpa using hown3
    have HAL : Hid (A.length = M + 1) := by show A.length = M + 1; rw [hA]; simp [HA.out]
    obtain ⟨a3, ca3, rfl, -, hra3, hnil3⟩ := owns_form hown3'
    have hna : a3 = none → ca3 = 0 := by rintro rfl; rcases hnil3 with ⟨_, h, _⟩ | ⟨g, hg⟩ <;> simp_all
    clear hA hown3 hown3' hown2 hgrow hb2 hb3 hb13 hs1 hb1 hB2 hsz2 hnil3
    refine (rbits_any _ _ _ _ (by omega) hy hs3).mono ?_
    rintro e w4 ⟨v4, rfl, hown4, hb4⟩
    have hra4 := hra3.below (Nat.le_refl _) hb4
    have hB4 := hB3.trans (hb4.mono hB3.size)
    have hbl : (bits ys).length = 8 * ys.length := bits_len ys
    generalize bits ys = bs at hown4 hbl
    obtain ⟨N, hN⟩ : ∃ N, 8 * ys.length = N := ⟨_, rfl⟩
    rw [hN] at hbl hown4
    have hN' : N ≤ 800 := by omega
    have HB : Hid (bs.length = N) := hbl
    obtain ⟨b4, cb4, rfl, -, hrb4, hnil4⟩ := owns_form hown4
    have hnb : b4 = none → cb4 = 0 := by rintro rfl; rcases hnil4 with ⟨_, _, h⟩ | ⟨g, hg⟩ <;> simp_all
    clear hown4 hbl hN hs3 hy hra3 hb4 hB3 hnil4
    go_wp2_with (first
      | (at_builtin; refine append_bools rfl _ _ rfl w4.heap.size _ 0 [] rfl (World.ownsRow_nil _ _ _ _) a3 (M + 1) ca3 A rfl HAL.out hra4 hna (by omega) (Nat.le_refl _) ?_; intro v5 w5 hown5 hb5; have hrb5 := hrb4.below (Nat.le_refl _) hb5; have hra5 := hra4.below (Nat.le_refl _) hb5; have hsz5 := hb5.size)
      | (at_builtin; refine append_bools rfl _ _ rfl w4.heap.size _ _ _ rfl hown5 b4 N cb4 bs rfl HB.out hrb5 hnb (by omega) hsz5 ?_; intro v6 w6 hown6 hb6))
    have hb46 := hb5.trans hb6
    have hra6 := hra4.below (Nat.le_refl _) hb46
    have hrb6 := hrb4.below (Nat.le_refl _) hb46
    have hB6 := hB4.trans (hb46.mono hB4.size)
    have HCL : Hid ((A ++ bs).length = M + 1 + N) := by show (A ++ bs).length = _; rw [List.length_append, HAL.out, HB.out]
    have hown6' : w6.ownsRow w4.heap.size 4 1 v6 (M + 1 + N) ((A ++ bs).map .bool) := by simpa [Nat.add_comm, Nat.add_left_comm, Nat.add_assoc] using hown6
    obtain ⟨c6, cc6, rfl, -, hrc6, -⟩ := owns_form hown6'
    have hp1 := put_bound A
    have hp2 := put_bound bs
    have HPT : Hid (put (A ++ bs) = put A ++ put bs) := by show put (A ++ bs) = _; rw [HAD.out, put_two]
    rw [HAL.out] at hp1
    rw [HB.out] at hp2
    clear hown6 hown6' hown5 hra5 hrb5 hra4 hrb4 hb5 hb6 hb46 hB4 hsz5
    refine (put_any _ _ _ _ _ HCL.out (by omega) hrc6).mono ?_
    rintro e w7 ⟨v7, rfl, hown7, hb7⟩
    rw [HPT.out] at hown7
    obtain ⟨K, hK⟩ : ∃ K, (put A ++ put bs).length = K := ⟨_, rfl⟩
    have HK : Hid ((put A ++ put bs).length = K) := hK
    rw [hK] at hown7
    have hK' : K ≤ 4 * M + 4 * N + 4 := by rw [← hK, List.length_append]; omega
    obtain ⟨c7, cc7, rfl, -, hrd7, -⟩ := owns_form hown7
    have hra7 := hra6.below (Nat.le_refl _) hb7
    have hrb7 := hrb6.below (Nat.le_refl _) hb7
    have hB7 := hB6.trans (hb7.mono hB6.size)
    clear hown7 hK hra6 hrb6 hrc6 hb7 hB6
    go_wp2_with fail
    refine (put_any _ _ _ _ _ HAL.out (by omega) hra7).mono ?_
    rintro e w8 ⟨v8, rfl, hown8, hb8⟩
    have hrb8 := hrb7.below (Nat.le_refl _) hb8
    have hsz8 := hb8.size
    clear hrb7 hra7
    go_wp2_with fail
    refine (put_any _ _ _ _ _ HB.out (by omega) hrb8).mono ?_
    rintro e w9 ⟨v9, rfl, hown9, hb9⟩
    have hb79 := hb8.trans (hb9.mono hsz8)
    have hown89 := owns_below hown8 hb9
    have hsz9 := Nat.le_trans hsz8 hb9.size
    obtain ⟨c9, cc9, rfl, -, hre9, hnil9⟩ := owns_form hown9
    have hne : c9 = none → cc9 = 0 := by rintro rfl; rcases hnil9 with ⟨_, _, h⟩ | ⟨g, hg⟩ <;> simp_all
    clear hrb8 hown8 hown9 hnil9 hb8
    obtain ⟨J, hJ⟩ : ∃ J, (put bs).length = J := ⟨_, rfl⟩
    have HJ : Hid ((put bs).length = J) := hJ
    obtain ⟨I, hI⟩ : ∃ I, (put A).length = I := ⟨_, rfl⟩
    have HI : Hid ((put A).length = I) := hI
    rw [hJ] at hp2 ⊢
    rw [hI] at hown89 hp1
    clear hJ hI
    go_wp2_with (at_builtin; refine append_bools rfl _ _ rfl w7.heap.size _ _ _ rfl hown89 c9 J cc9 (put bs) rfl HJ.out hre9 hne (by omega) hsz9 ?_; intro v10 w10 hown10 hb10)
    have hb710 := hb79.trans hb10
    have hrd10 := hrd7.below (Nat.le_refl _) hb710
    have hB10 := hB7.trans (hb710.mono hB7.size)
    have hKI : I + J = K := by have := HK.out; rw [List.length_append, HI.out, HJ.out] at this; exact this
    have hown10' : w10.ownsRow w7.heap.size 4 1 v10 K ((put A ++ put bs).map .bool) := by rw [← hKI, List.map_append]; exact hown10
    obtain ⟨c10, cc10, rfl, -, hrf10, -⟩ := owns_form hown10'
    have hdd : decide (put A ++ put bs = put A ++ put bs) = true := by simp
    clear hown10 hown10' hown89 hre9 hrd7 hb79 hb10 hKI hb9 hB7
    refine (rsame_n _ _ _ _ _ _ (put A ++ put bs) (put A ++ put bs) _ HK.out HK.out (by omega) (by omega) hrd10 hrf10).mono ?_
    rintro e w11 ⟨rfl, hb11⟩
    rw [hdd]
    go_wp2
    go_ret
    exact ⟨rfl, hB10.trans (hb11.mono hB10.size)⟩
end Go.Proofs.Ytokjieejnahfmaa.Tape
