/- The contract of the reference's Same of two units. -/
import Derived.Test.YtmjogdhfndnbaaaBase
namespace Go.Proofs.Ytmjogdhfndnbaaa.Tape
open Go.ChangeShapes Go.WideShapes Go.ChangeAt Go.RowKit
set_option linter.unusedVariables false

theorem strl_beq {a b : List Int} (ha : ∀ x ∈ a, 0 ≤ x ∧ x ≤ 255) (hb : ∀ x ∈ b, 0 ≤ x ∧ x ≤ 255) : ((str a).toList == (str b).toList) = decide (a = b) := by
  rw [Bool.eq_iff_iff, beq_iff_eq, decide_eq_true_iff]
  exact ⟨fun h => str_inj ha hb (str_list h), fun e => by rw [e]⟩

set_option maxRecDepth 100000 in
set_option maxHeartbeats 2000000 in
theorem rsame6_any (b f : Int) (p q : Bool) (k s : Int) (wd : Bool) (ao : Option Addr) (m ca : Nat) (xs : List Int) (b' f' : Int) (p' q' : Bool) (k' s' : Int) (wd' : Bool) (bo : Option Addr) (n cb : Nat) (ys : List Int) (R : Bool) (w : World) (hR : decide (b = b' ∧ f = f' ∧ p = p' ∧ q = q' ∧ k = k' ∧ s = s' ∧ wd = wd' ∧ xs = ys) = R)
    (hm : xs.length = m) (hn : ys.length = n) (hx : ∀ x ∈ xs, 0 ≤ x ∧ x ≤ 255) (hy : ∀ x ∈ ys, 0 ≤ x ∧ x ≤ 255) (ha : Reads w ao (xs.map (.int .u8))) (hb : Reads w bo (ys.map (.int .u8))) :
    Calls Try.prog 16 #[.agg #[.int .u8 b, .int .u8 f, .bool p, .bool q, .int .u8 k, .int .u8 s, .bool wd, .slice ao m ca], .agg #[.int .u8 b', .int .u8 f', .bool p', .bool q', .int .u8 k', .int .u8 s', .bool wd', .slice bo n cb]] w fun e w' =>
      e = .returned (.bool R) ∧ Below w.heap.size w w' := by
  have hB : Below w.heap.size w ((w.alloc (.cells #[.int .u8 b, .int .u8 f, .bool p, .bool q, .int .u8 k, .int .u8 s, .bool wd, .slice ao m ca] 36)).alloc (.cells #[.int .u8 b', .int .u8 f', .bool p', .bool q', .int .u8 k', .int .u8 s', .bool wd', .slice bo n cb] 36)) := ((Below.refl _ _).alloc (Nat.le_refl _) _).alloc (by simp) _
  by_cases eb : b ≠ b'
  · have nb : (b == b') = false := by rw [beq_eq_false_iff_ne]; exact eb
    have hF : decide (b = b' ∧ f = f' ∧ p = p' ∧ q = q' ∧ k = k' ∧ s = s' ∧ wd = wd' ∧ xs = ys) = false := by
      rw [decide_eq_false_iff_not]; exact fun h => eb h.1
    obtain rfl : false = R := hF.symm.trans hR
    clear hF hR eb hx hy hm hn ha hb
    go_enter Try.func16, Try.ntmps16
    go_wp2
    go_ret
    exact ⟨rfl, hB⟩
  obtain rfl := Decidable.of_not_not eb
  by_cases ef : f ≠ f'
  · have nf : (f == f') = false := by rw [beq_eq_false_iff_ne]; exact ef
    have hF : decide (b = b ∧ f = f' ∧ p = p' ∧ q = q' ∧ k = k' ∧ s = s' ∧ wd = wd' ∧ xs = ys) = false := by
      rw [decide_eq_false_iff_not]; exact fun h => ef (by simp_all)
    obtain rfl : false = R := hF.symm.trans hR
    clear hF hR ef hx hy hm hn ha hb
    go_enter Try.func16, Try.ntmps16
    go_wp2
    go_ret
    exact ⟨rfl, hB⟩
  obtain rfl := Decidable.of_not_not ef
  by_cases ep : p ≠ p'
  · have np : (p == p') = false := by rw [beq_eq_false_iff_ne]; exact ep
    have hF : decide (b = b ∧ f = f ∧ p = p' ∧ q = q' ∧ k = k' ∧ s = s' ∧ wd = wd' ∧ xs = ys) = false := by
      rw [decide_eq_false_iff_not]; exact fun h => ep (by simp_all)
    obtain rfl : false = R := hF.symm.trans hR
    clear hF hR ep hx hy hm hn ha hb
    go_enter Try.func16, Try.ntmps16
    go_wp2
    go_ret
    exact ⟨rfl, hB⟩
  obtain rfl := Decidable.of_not_not ep
  by_cases eq : q ≠ q'
  · have nq : (q == q') = false := by rw [beq_eq_false_iff_ne]; exact eq
    have hF : decide (b = b ∧ f = f ∧ p = p ∧ q = q' ∧ k = k' ∧ s = s' ∧ wd = wd' ∧ xs = ys) = false := by
      rw [decide_eq_false_iff_not]; exact fun h => eq (by simp_all)
    obtain rfl : false = R := hF.symm.trans hR
    clear hF hR eq hx hy hm hn ha hb
    go_enter Try.func16, Try.ntmps16
    go_wp2
    go_ret
    exact ⟨rfl, hB⟩
  obtain rfl := Decidable.of_not_not eq
  by_cases ek : k ≠ k'
  · have nk : (k == k') = false := by rw [beq_eq_false_iff_ne]; exact ek
    have hF : decide (b = b ∧ f = f ∧ p = p ∧ q = q ∧ k = k' ∧ s = s' ∧ wd = wd' ∧ xs = ys) = false := by
      rw [decide_eq_false_iff_not]; exact fun h => ek (by simp_all)
    obtain rfl : false = R := hF.symm.trans hR
    clear hF hR ek hx hy hm hn ha hb
    go_enter Try.func16, Try.ntmps16
    go_wp2
    go_ret
    exact ⟨rfl, hB⟩
  obtain rfl := Decidable.of_not_not ek
  by_cases es : s ≠ s'
  · have ns : (s == s') = false := by rw [beq_eq_false_iff_ne]; exact es
    have hF : decide (b = b ∧ f = f ∧ p = p ∧ q = q ∧ k = k ∧ s = s' ∧ wd = wd' ∧ xs = ys) = false := by
      rw [decide_eq_false_iff_not]; exact fun h => es (by simp_all)
    obtain rfl : false = R := hF.symm.trans hR
    clear hF hR es hx hy hm hn ha hb
    go_enter Try.func16, Try.ntmps16
    go_wp2
    go_ret
    exact ⟨rfl, hB⟩
  obtain rfl := Decidable.of_not_not es
  by_cases ewd : wd ≠ wd'
  · have nwd : (wd == wd') = false := by rw [beq_eq_false_iff_ne]; exact ewd
    have hF : decide (b = b ∧ f = f ∧ p = p ∧ q = q ∧ k = k ∧ s = s ∧ wd = wd' ∧ xs = ys) = false := by
      rw [decide_eq_false_iff_not]; exact fun h => ewd (by simp_all)
    obtain rfl : false = R := hF.symm.trans hR
    clear hF hR ewd hx hy hm hn ha hb
    go_enter Try.func16, Try.ntmps16
    go_wp2
    go_ret
    exact ⟨rfl, hB⟩
  obtain rfl := Decidable.of_not_not ewd
  have hc1 := conv_reads (cap := ca) hm (ha.below (Nat.le_refl _) hB)
  have hc2 := conv_reads (cap := cb) hn (hb.below (Nat.le_refl _) hB)
  have HE : Hid (((str xs).toList == (str ys).toList) = R) := by show _ = _; rw [strl_beq hx hy, ← hR]; simp
  clear hx hy hm hn ha hb hR
  go_enter Try.func16, Try.ntmps16
  go_wp2
  go_ret
  exact ⟨ret_bool HE.out, hB⟩

end Go.Proofs.Ytmjogdhfndnbaaa.Tape
