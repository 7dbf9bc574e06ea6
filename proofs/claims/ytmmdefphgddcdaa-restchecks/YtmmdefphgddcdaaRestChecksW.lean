/- The walk of the law RestChecks: it returns true and writes nothing that was there. -/
import Derived.Test.YtmmdefphgddcdaaRest4
namespace Go.Proofs.Ytmmdefphgddcdaa.Tape
open Go.ChangeShapes Go.WideShapes Go.ChangeAt Go.RowKit
attribute [local go_sem ↓] Go.wp_at_zero Go.wp_at_succ

theorem whole_len (xs : List Int) : (xs ++ chk xs).length = xs.length + 2 := by rw [List.length_append]; rfl
theorem whole_range (xs : List Int) (hx : ∀ x ∈ xs, 0 ≤ x ∧ x ≤ 255) : ∀ x ∈ xs ++ chk xs, 0 ≤ x ∧ x ≤ 255 := fun x hxm => by
  rcases List.mem_append.1 hxm with h | h
  · exact hx x h
  · exact two_range _ x h

theorem right_whole (ao : Option Addr) (cap : Nat) (xs : List Int) (w : World) (hl : xs.length ≤ 1000) (hx : ∀ x ∈ xs, 0 ≤ x ∧ x ≤ 255) (h : Reads w ao ((xs ++ chk xs).map (.int .u8))) :
    Calls Try.prog 12 #[.slice ao (xs.length + 2) cap] w fun e w' => e = .returned (.bool true) ∧ Below w.heap.size w w' := by
  have := right_any ao cap (xs.length + 2) (xs ++ chk xs) w (whole_len xs) (by omega) (whole_range xs hx) h
  rwa [show decide (2 ≤ xs.length + 2 ∧ left (xs ++ chk xs) = good) = true from by rw [left_whole]; simp] at this

theorem crc_whole (ao : Option Addr) (cap : Nat) (xs : List Int) (w : World) (hl : xs.length ≤ 1000) (h : Reads w ao ((bits (xs ++ chk xs)).map .bool)) :
    Calls Try.prog 13 #[.slice ao (8 * (xs.length + 2)) cap] w fun e w' => e = .returned (.int .u16 61624) ∧ w' = w := by
  have := crc_any ao cap (8 * (xs.length + 2)) (bits (xs ++ chk xs)) w (by rw [bits_len, whole_len]) (by omega) h
  rwa [show num (crc 0xffff#16 (bits (xs ++ chk xs))) = 61624 from by rw [show crc 0xffff#16 (bits (xs ++ chk xs)) = good from left_whole xs]; rfl] at this

set_option maxRecDepth 100000 in
set_option maxHeartbeats 2000000 in
theorem checks_walk (ao : Option Addr) (cap : Nat) (xs : List Int) (w : World) (hr : Reads w ao (xs.map (.int .u8))) (hx : ∀ x ∈ xs, 0 ≤ x ∧ x ≤ 255) (hnil : ao = none → cap = 0) :
    Calls Try.prog 3 #[.slice ao xs.length cap] w fun e w' => e = .returned (.bool true) ∧ Below w.heap.size w w' := by
  by_cases hlen : 300 < xs.length
  · go_enter Try.func3, Try.ntmps3
    go_wp2_with fail
    refine (awake3_any _).mono ?_
    rintro e w1 ⟨rfl, hb1⟩
    go_wp2_with fail
    refine (awake3_any _).mono ?_
    rintro e w2 ⟨rfl, hb2⟩
    go_wp2
    go_ret
    exact ⟨rfl, hb1.trans (hb2.mono hb1.size)⟩
  · have h3 : xs.length ≤ 300 := by omega
    go_enter Try.func3, Try.ntmps3
    go_wp2_with fail
    refine (awake3_any _).mono ?_
    rintro e w0 ⟨rfl, hb0⟩
    have hr0 := hr.below (Nat.le_refl _) hb0
    go_wp2_with fail
    refine (with_any _ _ _ _ _ rfl (by omega) hx hnil hr0).mono ?_
    rintro e wA ⟨vW, rfl, hownW, hbW⟩
    have hBA := hb0.trans (hbW.mono hb0.size)
    obtain ⟨wo, wcap, rfl, hwcap, hrW0, -⟩ := owns_form hownW
    have hrX0 := hr0.below (Nat.le_refl _) hbW
    have hrX : ∀ W, Below wA.heap.size wA W → Reads W ao (xs.map (.int .u8)) := fun W hW => hrX0.below (Nat.le_refl _) hW
    have hrW : ∀ W, Below wA.heap.size wA W → Reads W wo ((xs ++ chk xs).map (.int .u8)) := fun W hW => hrW0.below (Nat.le_refl _) hW
    have hcv : ∀ W, Below wA.heap.size wA W → (convert 22 9 (.slice wo (xs.length + 2) wcap)).run Try.prog W = .ok (.string (str (xs ++ chk xs))) W := fun W hW => conv_reads (whole_len xs) (hrW W hW)
    have hBd : Below wA.heap.size wA wA.drew := (Below.refl _ _).drew
    have HrX : Hid (∀ W, Below wA.heap.size wA W → Reads W ao (xs.map (.int .u8))) := hrX
    have HrW : Hid (∀ W, Below wA.heap.size wA W → Reads W wo ((xs ++ chk xs).map (.int .u8))) := hrW
    have Hcv : Hid (∀ W, Below wA.heap.size wA W → (convert 22 9 (.slice wo (xs.length + 2) wcap)).run Try.prog W = .ok (.string (str (xs ++ chk xs))) W) := hcv
    clear hrX hrW hcv hr0 hr hb0 hbW hownW hrW0 hrX0
    go_wp2_with fail
    go_region_held (fun W => (convert 22 9 (.slice wo (xs.length + 2) wcap)).run Try.prog W = .ok (.string (str (xs ++ chk xs))) W) (first | exact Hcv.out _ hBd | exact Hcv.out _ (by assumption)) (first
      | (go_at_call 9; refine (check_any _ _ _ _ _ rfl (by omega) hx (HrX.out _ hBd)).mono ?_; rintro e w1 ⟨v1, rfl, hown1, hb1⟩; obtain ⟨vo1, ca1, rfl, hca1, hr1, -⟩ := owns_form hown1; have hB1 := hBd.trans (hb1.mono hBd.size); have hc1 := conv_reads (cap := ca1) (show (chk xs).length = 2 from rfl) hr1)
      | (go_at_call 10; refine (rcheck_any _ _ _ _ _ rfl (by omega) hx (HrX.out _ hB1)).mono ?_; rintro e w2 ⟨v2, rfl, hown2, hb2⟩; obtain ⟨vo2, ca2, rfl, hca2, hr2, -⟩ := owns_form hown2; have hB2 := hB1.trans (hb2.mono hB1.size); have hc2 := conv_reads (cap := ca2) (show (chk xs).length = 2 from rfl) hr2; have hc1' := conv_reads (cap := ca1) (show (chk xs).length = 2 from rfl) (hr1.below (Nat.le_refl _) hb2))
      | (go_at_call 11; refine (whole_any _ _ _ _ _ rfl (by omega) hx hnil (HrX.out _ hB2)).mono ?_; rintro e w3 ⟨v3, rfl, hown3, hb3⟩; obtain ⟨vo3, ca3, rfl, hca3, hr3, -⟩ := owns_form hown3; have hB3 := hB2.trans (hb3.mono hB2.size); have hc3 := conv_reads (cap := ca3) (whole_len xs) hr3)
      | (go_at_call 12; refine (right_whole _ _ _ _ (by omega) hx (HrW.out _ hB3)).mono ?_; rintro e w4 ⟨rfl, hb4⟩; have hB4 := hB3.trans (hb4.mono hB3.size))
      | (go_at_call 14; refine (rbits_n _ _ _ _ _ (whole_len xs) (by omega) (whole_range xs hx) (HrW.out _ hB4)).mono ?_; rintro e w5 ⟨v5, rfl, hown5, hb5⟩; obtain ⟨vo5, ca5, rfl, hca5, hr5, -⟩ := owns_form hown5; have hB5 := hB4.trans (hb5.mono hB4.size))
      | (go_at_call 13; refine (crc_whole _ _ _ _ (by omega) hr5).mono ?_; rintro e w6 ⟨rfl, rfl⟩))
    all_goals
      go_wp2
      go_ret
      exact ⟨rfl, hBA.trans (hB5.mono hBA.size)⟩
end Go.Proofs.Ytmmdefphgddcdaa.Tape
