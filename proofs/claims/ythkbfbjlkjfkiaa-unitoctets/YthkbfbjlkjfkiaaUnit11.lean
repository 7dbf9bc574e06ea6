/- The contracts of the reference's Encode and Plain. -/
import Derived.Test.YthkbfbjlkjfkiaaUnitReadsW
namespace Go.Proofs.Ythkbfbjlkjfkiaa.Tape
open Go.ChangeShapes Go.WideShapes Go.ChangeAt Go.RowKit

theorem owns_new_at {w : World} {base B : Nat} (hB : w.heap.size = B) (h : base ≤ B) (cs : List Value) (n : Nat) (hn : cs.length = n) (hm : n ≤ maxLen) : (w.alloc (.cells cs.toArray 5)).ownsRow base 5 1 (.slice (some ⟨B, 0, none⟩) n n) n cs := by
  subst hB; exact owns_new h cs n hn hm

theorem enc_as (b f : Int) (p q : Bool) (k s : Int) (wd : Bool) (xs ys : List Int) (H1 H2 L : Int) (h1 : H1 = hdo b p) (h2 : H2 = hdo f q) (hy : bod k s wd xs = ys) (hL : L = ((min ys.length 63 : Nat) : Int)) :
    (enc b f p q k s wd xs).map (Value.int .u8) = [.int .u8 H1, .int .u8 H2, .int .u8 L] ++ ys.map (.int .u8) := by
  unfold enc
  rw [h1, h2, hL, hy]; rfl

set_option maxRecDepth 100000 in
set_option maxHeartbeats 2000000 in
theorem renc_fill (b f : Int) (p q : Bool) (s : Int) (wd : Bool) (ao : Option Addr) (n cap : Nat) (xs : List Int) (w : World) (hb0 : 0 ≤ b) (hf0 : 0 ≤ f) (hb127 : b ≤ 127) (hf127 : f ≤ 127) :
    Calls Try.prog 14 #[.agg #[.int .u8 b, .int .u8 f, .bool p, .bool q, .int .u8 0, .int .u8 s, .bool wd, .slice ao n cap]] w fun e w' => ∃ v, e = .returned v ∧ w'.ownsRow w.heap.size 5 1 v 3 ((enc b f p q 0 s wd xs).map (.int .u8)) ∧ Below w.heap.size w w' := by
  have hE := fun H1 H2 h1 h2 => enc_as b f p q 0 s wd xs [] H1 H2 0 h1 h2 rfl rfl
  have HE : Hid (∀ H1 H2, H1 = hdo b p → H2 = hdo f q → (enc b f p q 0 s wd xs).map (Value.int .u8) = [.int .u8 H1, .int .u8 H2, .int .u8 0] ++ [].map (.int .u8)) := hE
  have hB0 : Below w.heap.size w (w.alloc (.cells #[.int .u8 b, .int .u8 f, .bool p, .bool q, .int .u8 0, .int .u8 s, .bool wd, .slice ao n cap] 24)) := (Below.refl _ _).alloc (Nat.le_refl _) _
  clear hE
  cases p <;> cases q
  all_goals
    go_enter Try.func14, Try.ntmps14
    go_wp2_with (at_builtin; refine append_reads rfl _ _ rfl w.heap.size _ 3 [_, _, _] rfl (owns_new_at (by simp) (by omega) [_, _, _] 3 rfl (by unfold maxLen; omega)) none 0 0 [] rfl rfl (Reads.nil _ _) (fun _ => rfl) (by omega) (by simp; omega) ?_; intro v5 w5 hown5 hb5)
    go_ret
    exact ⟨_, rfl, by rw [HE.out _ _ rfl rfl]; exact hown5, (hB0.alloc (by simp) _).trans hb5⟩

set_option maxRecDepth 100000 in
set_option maxHeartbeats 2000000 in
theorem renc_one (b f : Int) (p q : Bool) (s : Int) (ao : Option Addr) (n cap : Nat) (xs : List Int) (w : World) (hb0 : 0 ≤ b) (hf0 : 0 ≤ f) (hb127 : b ≤ 127) (hf127 : f ≤ 127) :
    Calls Try.prog 14 #[.agg #[.int .u8 b, .int .u8 f, .bool p, .bool q, .int .u8 1, .int .u8 s, .bool false, .slice ao n cap]] w fun e w' => ∃ v, e = .returned v ∧ w'.ownsRow w.heap.size 5 1 v 4 ((enc b f p q 1 s false xs).map (.int .u8)) ∧ Below w.heap.size w w' := by
  have HE : Hid (∀ H1 H2, H1 = hdo b p → H2 = hdo f q → (enc b f p q 1 s false xs).map (Value.int .u8) = [.int .u8 H1, .int .u8 H2, .int .u8 1] ++ [s].map (.int .u8)) := fun H1 H2 h1 h2 => enc_as b f p q 1 s false xs [s] H1 H2 1 h1 h2 rfl rfl
  have hB0 : Below w.heap.size w (w.alloc (.cells #[.int .u8 b, .int .u8 f, .bool p, .bool q, .int .u8 1, .int .u8 s, .bool false, .slice ao n cap] 24)) := (Below.refl _ _).alloc (Nat.le_refl _) _
  have hbox := heap_alloc_new w (.cells #[.int .u8 b, .int .u8 f, .bool p, .bool q, .int .u8 1, .int .u8 s, .bool false, .slice ao n cap] 24)
  have HB0 : Hid (Below w.heap.size w _) := hB0
  have HX : Hid ((w.alloc (.cells #[.int .u8 b, .int .u8 f, .bool p, .bool q, .int .u8 1, .int .u8 s, .bool false, .slice ao n cap] 24)).heap[w.heap.size]? = _) := hbox
  clear hB0 hbox
  cases p <;> cases q
  all_goals
    go_enter Try.func14, Try.ntmps14
    go_wp2_with (first
      | (at_builtin; have hr1 := hr1; refine append_reads rfl _ _ rfl w.heap.size _ 3 [_, _, _] rfl (owns_new_at (by simp) (by omega) [_, _, _] 3 rfl (by unfold maxLen; omega)) (some ⟨g1, 0, none⟩) 1 ca1 [s] rfl rfl (hr1.below (Nat.le_refl _) ((Below.refl _ _).alloc (Nat.le_refl _) _)) (fun h => by cases h) (by omega) (by simp; omega) ?_; intro v5 w5 hown5 hb5)
      | (at_builtin; refine append_reads rfl _ _ rfl (w.heap.size + 1) _ 0 [] rfl owns_nil (some ⟨w.heap.size + 1, 0, none⟩) 1 1 [s] rfl rfl (reads_lit_at _ [s] _ (by simp)) (fun h => by cases h) (by omega) (by simp) ?_; intro v1 w1 hown1 hb1; rw [Nat.zero_add, List.nil_append] at hown1; obtain ⟨g1, ca1, rfl⟩ := Joins.ownsRow_form hown1 (by omega); have hx1 : w1.heap[w.heap.size]? = _ := (hb1.block _ (by omega)).trans (heap_more HX.out _); obtain ⟨⟨-, -, -, -, c4, -, c6, -⟩, -⟩ := unit_cells hx1; have hB1 := (HB0.out.alloc (by simp) _).trans (hb1.mono (by omega)); have hr1 := Reads.of_owns hown1; have hB1s := hB1.size; clear hx1 hown1 hb1))
    go_ret
    exact ⟨_, rfl, by rw [HE.out _ _ rfl rfl]; exact hown5, (hB1.alloc hB1s _).trans hb5⟩
end Go.Proofs.Ythkbfbjlkjfkiaa.Tape
