/- The contracts of package unit's small functions (join, length, split, Name), and of bytes.Equal and bytes.Clone. -/
import Derived.Test.YthkbfbjlkjfkiaaBase
import Derived.Test.YthkbfbjlkjfkiaaRing
import Derived.Lib.LazyBuf
namespace Go.Proofs.Ythkbfbjlkjfkiaa.Tape
open Go.ChangeShapes Go.WideShapes Go.ChangeAt Go.RowKit

/-- A number and its indicator as an octet. -/
def hdo (b : Int) (p : Bool) : Int := if p then b + 128 else b

set_option maxHeartbeats 400000 in
theorem join_any (b : Int) (p : Bool) (w : World) (h0 : 0 ≤ b) (h1 : b ≤ 127) :
    Calls Try.prog 21 #[.int .u8 b, .bool p] w fun e w' => e = .returned (.int .u8 (hdo b p)) ∧ w' = w := by
  have ho := or_num 7 b (by decide) h0 (by omega)
  cases p
  all_goals
    go_enter Try.func21, Try.ntmps21
    go_wp2
    go_ret
    first | exact ⟨rfl, rfl⟩ | exact ⟨ret_int ho, rfl⟩

set_option maxHeartbeats 400000 in
theorem length_any (n : Nat) (w : World) (hl : n ≤ 1000000) :
    Calls Try.prog 22 #[.int .i64 n] w fun e w' => e = .returned (.int .u8 ((min n 63 : Nat) : Int)) ∧ w' = w := by
  go_enter Try.func22, Try.ntmps22
  go_wp2
  all_goals
    go_ret
    exact ⟨ret_int (by omega), rfl⟩

set_option maxHeartbeats 400000 in
theorem split_any (x : Int) (w : World) (h0 : 0 ≤ x) (h1 : x ≤ 255) :
    Calls Try.prog 23 #[.int .u8 x] w fun e w' => e = .returned (.tuple #[.int .u8 (x % 128), .bool (decide (128 ≤ x))]) ∧ w' = w := by
  go_enter Try.func23, Try.ntmps23
  go_wp2_with (go_at_call 26; refine (Ring.at_any _ _).mono ?_; rintro e w' ⟨rfl, rfl⟩)
  go_ret2
  exact ⟨rfl, rfl⟩

theorem strl_beq {a b : List Int} (ha : ∀ x ∈ a, 0 ≤ x ∧ x ≤ 255) (hb : ∀ x ∈ b, 0 ≤ x ∧ x ≤ 255) : ((str a).toList == (str b).toList) = decide (a = b) := by
  rw [Bool.eq_iff_iff, beq_iff_eq, decide_eq_true_iff]
  exact ⟨fun h => str_inj ha hb (str_list h), fun e => by rw [e]⟩

set_option maxHeartbeats 400000 in
theorem equal8_any (ao bo : Option Addr) (m n ca cb : Nat) (xs ys : List Int) (w : World) (hm : xs.length = m) (hn : ys.length = n) (hx : ∀ x ∈ xs, 0 ≤ x ∧ x ≤ 255) (hy : ∀ x ∈ ys, 0 ≤ x ∧ x ≤ 255) (ha : Reads w ao (xs.map (.int .u8))) (hb : Reads w bo (ys.map (.int .u8))) :
    Calls Try.prog 25 #[.slice ao m ca, .slice bo n cb] w fun e w' => e = .returned (.bool (decide (xs = ys))) ∧ w' = w := by
  have c1 := conv_reads (cap := ca) hm ha
  have c2 := conv_reads (cap := cb) hn hb
  clear hm hn ha hb
  go_enter Try.func25, Try.ntmps25
  go_wp2
  go_ret
  exact ⟨ret_bool (strl_beq hx hy), rfl⟩

set_option maxRecDepth 100000 in
set_option maxHeartbeats 400000 in
theorem clone_any (g off n cap : Nat) (xs : List Int) (w : World) (hn : xs.length = n) (hl : n ≤ 1000) (h : Reads w (some ⟨g, off, none⟩) (xs.map (.int .u8))) :
    Calls Try.prog 24 #[.slice (some ⟨g, off, none⟩) n cap] w fun e w' => ∃ v, e = .returned v ∧ w'.ownsRow w.heap.size 5 1 v n (xs.map (.int .u8)) ∧ Below w.heap.size w w' := by
  have hb1 : Below w.heap.size w (w.alloc (.cells #[] 5)) := (Below.refl _ _).alloc (Nat.le_refl _) _
  have hown := owns_new (w := w) (base := w.heap.size) (Nat.le_refl _) [] 0 rfl (by unfold maxLen; omega)
  have h1 := h.below (Nat.le_refl _) hb1
  have hq := run_eql_slice_nil (P := Try.prog) w 22 5 (some ⟨g, off, none⟩) n cap Try.underlying22
  go_enter Try.func24, Try.ntmps24
  go_wp2_with (at_builtin; refine append_reads rfl _ _ rfl w.heap.size _ 0 [] rfl hown (some ⟨g, off, none⟩) n cap xs rfl hn h1 (fun h => by cases h) (by omega) (by simp) ?_; intro v' w2 hown2 hb2)
  rw [Nat.zero_add, List.nil_append] at hown2
  go_wp2
  go_ret
  exact ⟨_, rfl, hown2, hb1.trans hb2⟩

/-- A status's name. -/
def nam (s : Int) : List UInt8 := if s = 0 then [83, 73, 79] else if s = 1 then [83, 73, 78] else if s = 2 then [83, 73, 69] else if s = 3 then [83, 73, 79, 83] else if s = 4 then [83, 73, 80, 79] else if s = 5 then [83, 73, 66] else []

set_option maxHeartbeats 1000000 in
theorem name_any (s : Int) (w : World) (h0 : 0 ≤ s) (h1 : s ≤ 255) :
    Calls Try.prog 19 #[.int .u8 s] w fun e w' => e = .returned (.string ⟨(nam s).toArray⟩) ∧ w' = w := by
  by_cases h : s = 0 ∨ s = 1 ∨ s = 2 ∨ s = 3 ∨ s = 4 ∨ s = 5
  · rcases h with rfl | rfl | rfl | rfl | rfl | rfl
    all_goals
      go_enter Try.func19, Try.ntmps19
      go_wp2
      go_ret
      exact ⟨rfl, rfl⟩
  · have n0 : (s == 0) = false := by rw [beq_eq_false_iff_ne]; omega
    have n1 : (s == 1) = false := by rw [beq_eq_false_iff_ne]; omega
    have n2 : (s == 2) = false := by rw [beq_eq_false_iff_ne]; omega
    have n3 : (s == 3) = false := by rw [beq_eq_false_iff_ne]; omega
    have n4 : (s == 4) = false := by rw [beq_eq_false_iff_ne]; omega
    have n5 : (s == 5) = false := by rw [beq_eq_false_iff_ne]; omega
    have HN : Hid (nam s = []) := by
      show _ = _
      unfold nam
      rw [if_neg (by omega), if_neg (by omega), if_neg (by omega), if_neg (by omega), if_neg (by omega), if_neg (by omega)]
    clear h
    go_enter Try.func19, Try.ntmps19
    go_wp2
    go_ret
    exact ⟨by rw [HN.out] <;> rfl, rfl⟩
end Go.Proofs.Ythkbfbjlkjfkiaa.Tape
