/- The walk of the law FlagLong: it returns true and writes nothing that was there. -/
import Derived.Test.YtfjfnfofbhikdaaEar7
namespace Go.Proofs.Ytfjfnfofbhikdaa.Tape
open Go.ChangeShapes Go.WideShapes Go.ChangeAt Go.RowKit

theorem owns_away {w : World} {B b n cap m s : Nat} {e : TypeId} {v : Value} {ao : Option Addr} {vs : List Value} (h : w.ownsRow B e s (.slice ao n cap) m vs) (hb : b < B) (hv : ∀ k, v.ownBlock = some k → k < B) : Away w b v ao := fun x hx =>
  ⟨(owns_lies h x hx).2, by have := (owns_lies h x hx).1; omega, fun e => by have := hv _ e; have := (owns_lies h x hx).1; omega⟩

set_option maxRecDepth 100000 in
set_option maxHeartbeats 1000000 in
theorem long_walk (c : Int) (w : World) (wc : (Lit.int .u16 c).wf = true) :
    Calls Try.prog 8 #[.int .u16 c] w fun e w' => e = .returned (.bool true) ∧ Below w.heap.size w w' := by
  obtain ⟨i0, hi, hz0, hz1, hz2⟩ := info_parts info4
  obtain ⟨c0, c1⟩ := bounds_u16 wc
  obtain ⟨k, hk⟩ : ∃ k : Nat, 2600 + c % 200 = (k : Int) := ⟨(2600 + c % 200).toNat, by omega⟩
  have hk1 : k ≤ 2800 := by omega
  obtain ⟨cc, hcc⟩ := ear0_flg
  have HCC : Hid (after ear0 flg = ⟨false, [], cc, 0⟩) := hcc
  clear hcc
  go_enter Try.func8, Try.ntmps8
  go_wp2_with fail
  refine (awake5_any _).mono ?_
  rintro e w1 ⟨rfl, hb1⟩
  have hear := ear_new (w := w1) (B := w.heap.size) hb1.size
  have hBe := below_alloc w1 (.cells #[.bool false, .slice none 0 0, .int .i64 0, .int .i64 0] 48)
  have hse : (w1.alloc (.cells #[.bool false, .slice none 0 0, .int .i64 0, .int .i64 0] 48)).heap.size = w1.heap.size + 1 := by simp
  go_wp2_with fail
  refine (rflag_any _).mono ?_
  rintro e w2 ⟨v2, rfl, hown2, hb2⟩
  have hear2 := hear.below hb2
  have hBe2 := hBe.trans (hb2.mono (by simp))
  rw [hse] at hown2
  obtain ⟨vo2, ca2, rfl, -, hr2, -⟩ := owns_form hown2
  have haw2 := owns_away (b := w1.heap.size) (v := .slice none 0 0) hown2 (by omega) (by simp [Value.ownBlock])
  have hw1 := hb1.size
  have hB2 : Below w.heap.size w w2 := hb1.trans (hBe2.mono hb1.size)
  have hbi := ebits_any w.heap.size w1.heap.size 8 ca2 (.slice none 0 0) ear0 vo2 flg w2 rfl (by omega) hr2 haw2 hear2
  rw [HCC.out] at hbi
  clear hear hBe hse hb2 hown2 hr2 haw2 hBe2 hear2
  go_wp2_with fail
  refine hbi.mono ?_
  rintro e w3 ⟨u3, hs3, v3, rfl, -, -, -, hear3, hfr3, -⟩
  have hB3 : Below w.heap.size w w3 := hB2.trans (hfr3.below hw1 (by simp [Value.ownBlock]) hB2.size)
  have hsz3 := hB3.size
  clear hbi hfr3 hB2 hb1
  have hb3l := hear3.lt
  have hv3 : ∀ g, v3.ownBlock = some g → g < w3.heap.size ∧ w.heap.size ≤ g := fun g hg => ⟨(hear3.row.lt g hg).2, (hear3.row.lt g hg).1⟩
  go_wp2_with (at_make; refine wpList_make_full _ rfl _ _ 27 rfl w3.heap.size 4 i0 (.bool false) 1 Try.underlying27 hi hz0 hz1 _ _ _ _ k rfl rfl (by omega) (by omega) (by rw [hz2]; omega) (by unfold maxLen; omega) (Nat.le_refl _) ?_; intro w4 hown4 hgrow4)
  have hm4 : w4.ownsRow w3.heap.size 4 1 (.slice (some ⟨w3.heap.size, 0, none⟩) k k) k ((List.replicate k false).map .bool) := by
    have := hown4
    rw [Nat.mul_one, show (Value.bool false).cells = #[.bool false] from rfl, toList_madeCells_one] at this
    rw [List.map_replicate]; exact this
  have hr4 := Reads.of_owns hm4
  have hear4 := hear3.grown hgrow4 (by simp) (by simp)
  have haw4 := owns_away (b := w1.heap.size) (v := v3) hm4 hb3l (fun g hg => (hv3 g hg).1)
  have hB4 : Below w.heap.size w w4 := hB3.grown hgrow4 hsz3 (by simp)
  have hbi := ebits_any w.heap.size w1.heap.size k k v3 _ _ (List.replicate k false) w4 (by simp) (by omega) hr4 haw4 hear4
  have HL := noughts_all k cc
  generalize hA : after ⟨false, [], cc, 0⟩ (List.replicate k false) = A at hbi HL
  have HLL : Hid (A.lost = decide (2687 < k)) := HL
  clear hown4 hgrow4 hm4 hr4 hear4 haw4 hear3 hB3 hA HL hk
  refine hbi.mono ?_
  rintro e w5 ⟨u5, hs5, v5, rfl, -, -, -, hear5, hfr5, -⟩
  have hB5 : Below w.heap.size w w5 := hB4.trans (hfr5.below hw1 (fun g hg => (hv3 g hg).2) hB4.size)
  have hco := counting_any _ _ _ _ _ hear5
  rw [HLL.out] at hco
  clear hbi hfr5 hear5
  go_wp2_with (go_at_call 26; refine hco.mono ?_; rintro e w6 ⟨rfl, hw6⟩; obtain rfl := hw6.symm; clear hw6)
  go_ret
  exact ⟨ret_bool (by simp; omega), hB5⟩
end Go.Proofs.Ytfjfnfofbhikdaa.Tape
