/- The hold laws' own awake; HoldWindow's walk. -/
import Derived.Test.YtgdbpblojncjhaaHold7
import Derived.Lib.SlBytesConst
namespace Go.Proofs.Ytgdbpblojncjhaa.Tape
open Go.ChangeShapes Go.WideShapes Go.ChangeAt Go.RowKit
set_option linter.unusedVariables false

theorem HoldAt.base {w : World} {b B : Nat} {T : Nat → Prop} {s : Hs} (h : HoldAt w b B T s) {C : Nat} (hb : C ≤ b) (hB : C ≤ B) : ∀ g, T g → C ≤ g := fun g hg => by
  rcases (h.mine g hg).1 with e | e <;> omega

/-- A step of a Hold of the call's own changes nothing that was there. -/
theorem Foot.low {T T' : Nat → Prop} {w0 w w' : World} {b B C : Nat} {s : Hs} (hf : Foot T T' w w') (h : HoldAt w b B T s) (hb : C ≤ b) (hB : C ≤ B) (k : Below C w0 w) (hC : C ≤ w.heap.size) : Below C w0 w' := k.trans (hf.below (h.base hb hB) hC)

set_option maxRecDepth 100000 in
set_option maxHeartbeats 1000000 in
theorem awake10_any (w : World) : Calls Try.prog 6 #[] w fun e w' => e = .returned (.bool true) ∧ Below w.heap.size w w' := by
  go_enter Try.func6, Try.ntmps6
  go_wp2_with fail
  refine (new_any 5 1000 w.heap.size w (by omega) (by omega)).mono ?_
  rintro e w1 ⟨rfl, ⟨T1, h1, -⟩, hB1⟩
  have hs1 := hB1.size
  have hB2 := hB1.alloc hs1 (.cells #[.int .u8 97, .int .u8 98, .int .u8 99] 5 (3, 4))
  have h2 : HoldAt (w1.alloc (.cells #[.int .u8 97, .int .u8 98, .int .u8 99] 5 (3, 4))) w.heap.size w.heap.size T1 ⟨5, 1000, 0, [], []⟩ := h1.below ((Below.refl _ _).alloc (Nat.le_refl _) _)
  have hr2 : Reads (w1.alloc (.cells #[.int .u8 97, .int .u8 98, .int .u8 99] 5 (3, 4))) (some ⟨w1.heap.size, 0, none⟩) (([97, 98, 99] : List Int).map (.int .u8)) := reads_lit w1 [97, 98, 99] (3, 4)
  have kc := Lib.run_convert_bytes_const (P := Try.prog) w1 31 5 (([97, 98, 99] : List Int).map (Value.int .u8)).toArray 3 3 Try.underlying31 Try.underlying5
  simp only [List.map_cons, List.map_nil, List.size_toArray, List.length_cons, List.length_nil] at kc
  go_wp2_with fail
  refine (put_any w.heap.size w.heap.size T1 _ _ 3 3 [97, 98, 99] _ h2 rfl (by omega) hr2 (by decide) (by simp; omega)).mono ?_
  rintro e w3 ⟨rfl, T3, h3, hF3⟩
  have hB3 := hF3.low h2 (Nat.le_refl _) (Nat.le_refl _) hB2 (by simp; omega)
  have h3' : HoldAt w3 w.heap.size w.heap.size T3 ⟨5, 1000, 0, [], [[97, 98, 99]]⟩ := h3
  rw [show (Hs.putE ⟨5, 1000, 0, [], []⟩ [97, 98, 99]) = 0 from rfl]
  clear h1 h2 h3 hF3 hr2 hB2 hB1
  go_wp2_with fail
  refine (send_ok w.heap.size w.heap.size T3 _ [97, 98, 99] [] _ h3' rfl (by simp) hB3.size).mono ?_
  rintro e w4 ⟨v4, T4, rfl, -, h4, hF4⟩
  have hB4 := hF4.low h3' (Nat.le_refl _) (Nat.le_refl _) hB3 hB3.size
  have h4' : HoldAt w4 w.heap.size w.heap.size T4 ⟨5, 1000, 0, [[97, 98, 99]], []⟩ := h4
  rw [show (((Hs.first ⟨5, 1000, 0, [], [[97, 98, 99]]⟩ : Nat) : Int) + ((Hs.sent ⟨5, 1000, 0, [], [[97, 98, 99]]⟩).length : Nat)) % 128 = 0 from rfl]
  clear h3' h4 hF4 hB3
  go_wp2_with fail
  refine (free_ok w.heap.size w.heap.size T4 _ 0 _ h4' (by omega) (by decide)).mono ?_
  rintro e w5 ⟨rfl, T5, h5, hF5⟩
  have hB5 := hF5.low h4' (Nat.le_refl _) (Nat.le_refl _) hB4 hB4.size
  rw [show ((Hs.upTo ⟨5, 1000, 0, [[97, 98, 99]], []⟩ 0 : Nat) : Int) = 1 from rfl]
  clear h4' h5 hF5 hB4
  go_wp2
  go_ret
  exact ⟨rfl, hB5⟩
end Go.Proofs.Ytgdbpblojncjhaa.Tape
