/- The contract of a State's Order. -/
import Derived.Test.YtldjglmelbkngaaGreatState6
import Derived.Test.YtldjglmelbkngaaGreatState7
namespace Go.Proofs.YtldjglmelbkngaaGreat.Tape
open Go.ChangeShapes Go.WideShapes Go.ChangeAt Go.RowKit
set_option linter.unusedVariables false

attribute [local go_sem] m_hold c_hold

def St.flush (x : St) : St := x.setW x.wt { x.hs with next := [] }
def St.hurry (x : St) (on : Bool) : St := x.setA (x.A.hurry on)
/-- What an order answers, and leaves. -/
def St.ordE (x : St) (o : Int) (p : List Int) : Int :=
  if o = 1 then x.beginE else if o = 2 then x.stopE else if o = 5 then x.putE p else if o = 9 then x.resumeE else if o = 10 ∨ o = 11 then x.busyE else if o = 3 ∨ o = 4 ∨ o = 6 ∨ o = 7 ∨ o = 8 then 0 else 1
def St.ord (x : St) (o : Int) (p : List Int) : St :=
  if o = 1 then x.begin_ else if o = 2 then x.stopO else if o = 3 ∨ o = 4 then x.hurry (o == 3) else if o = 5 then x.put_ p else if o = 6 ∨ o = 7 then x.local_ (o == 6) else if o = 8 then x.flush else if o = 9 then x.resume else if o = 10 ∨ o = 11 then x.busy (o == 10) else x

theorem ord_ok (o : Int) (W : World) (ao : Option Addr) (n cap : Nat) (b : Nat) (h : W.heap[b]? = some (.cells #[.int .u8 o, .slice ao n cap] 63 (0, 0))) : W.cell? ⟨b, 0, none⟩ = some (.int .u8 o) ∧ W.cell? ⟨b, 1, none⟩ = some (.slice ao n cap) := by
  constructor <;> rw [Lib.cell_of_heap h] <;> rfl

set_option maxRecDepth 100000 in
set_option maxHeartbeats 4000000 in
theorem order_any (P : Pl) (x : St) (o : Int) (ao : Option Addr) (n cap : Nat) (p : List Int) (k : Nat) (w : World) (T : Nat → Prop) (h : StAt w P (k + 2) T x) (hn : p.length = n) (hl : n ≤ 1000000) (hr : Reads w ao (p.map (.int .u8))) (hp : ∀ y ∈ p, 0 ≤ y ∧ y ≤ 255) :
    Calls Tryz.prog 27 #[.pointer (some ⟨P.b, 0, none⟩), .agg #[.int .u8 o, .slice ao n cap]] w fun e w' => e = .returned (.int .i64 (x.ordE o p)) ∧ ∃ T', StAt w' P k T' (x.ord o p) ∧ Foot T T' w w' := by
  obtain ⟨W, hW⟩ : ∃ W, W = w.alloc (.cells #[.int .u8 o, .slice ao n cap] 63) := ⟨_, rfl⟩
  have hB : Below w.heap.size w W := by rw [hW]; exact (Below.refl _ _).alloc (Nat.le_refl _) _
  have hh : W.heap[w.heap.size]? = some (.cells #[.int .u8 o, .slice ao n cap] 63 (0, 0)) := by rw [hW]; exact heap_alloc_new w _
  have hs := h.keep hB
  have hrW := hr.below (Nat.le_refl _) hB
  have HF0 : Hid (Foot T T w W) := Foot.of_below hB
  have HSW : Hid (StAt W P (k + 2) T x) := hs
  obtain ⟨u0, u1⟩ := ord_ok o W ao n cap _ hh
  have HH : Hid (W.heap[w.heap.size]? = some (.cells #[.int .u8 o, .slice ao n cap] 63 (0, 0))) := hh
  have HL : Hid (∀ g, T g → g < w.heap.size) := fun g hg => (h.lt.1 g hg).2
  clear hB hh h hr
  by_cases h1 : o = 1
  · subst h1
    have HE : Hid (x.ordE 1 p = x.beginE) := rfl
    have HX : Hid (x.ord 1 p = x.begin_) := rfl
    have hc := begin_any P x (k + 2) W T hs
    clear hs hrW u1 hn hl hp HH HL
    go_enter Tryz.func27, Tryz.ntmps27
    go_upto_region 1 with fail
    rw [← hW]
    clear hW
    go_wp2_with fail
    refine hc.mono ?_
    rintro e w2 ⟨rfl, T2, h2, hF2⟩
    clear hc
    go_wp2
    go_ret
    exact ⟨ret_int HE.out.symm, _, by rw [HX.out]; exact h2.mono (by omega), HF0.out.trans hF2⟩
  by_cases h2 : o = 2
  · subst h2
    have HE : Hid (x.ordE 2 p = x.stopE) := rfl
    have HX : Hid (x.ord 2 p = x.stopO) := rfl
    have hc := stop_st P x k W T hs
    clear hs hrW u1 hn hl hp HH HL
    go_enter Tryz.func27, Tryz.ntmps27
    go_upto_region 1 with fail
    rw [← hW]
    clear hW
    go_wp2_with fail
    refine hc.mono ?_
    rintro e w2 ⟨rfl, T2, h2, hF2⟩
    clear hc
    go_wp2
    go_ret
    exact ⟨ret_int HE.out.symm, _, by rw [HX.out]; exact h2, HF0.out.trans hF2⟩
  by_cases h3 : o = 3
  · subst h3
    have HE : Hid (x.ordE 3 p = 0) := rfl
    have HX : Hid (x.ord 3 p = x.setA (x.A.hurry true)) := rfl
    obtain ⟨hr, T0, v, rfl, hi⟩ := hs
    have hD := hi.keep ((Below.refl _ _).drew)
    have hhu := hurry_al P.a P.c x.A true W.drew hD.al
    have HID : Hid (StIn W.drew P T0 v x) := hD
    have HR : Hid (Room (k + 2) (x.setA (x.A.hurry true))) := Room.setA hr (hr.ra.hurry _)
    have c2 := hi.all.1.2.2.1
    have hS : W.drew.cell? ⟨P.b, 2, none⟩ = some (.pointer (some ⟨P.a, 0, none⟩)) ∧ W.drew.cell? ⟨w.heap.size, 0, none⟩ = some (.int .u8 3) := ⟨c2, u0⟩
    have HS : Hid (∀ Y, Foot (setT P T0 v) (setT P T0 v) W.drew Y → Y.cell? ⟨w.heap.size, 0, none⟩ = some (.int .u8 3)) := fun Y hf => (ord_ok 3 Y ao n cap _ ((hf.block _ (heap_lt HH.out) (fun e => by have := HL.out _ e; omega)).trans HH.out)).1
    clear hr hi hD hrW u1 hn hl hp HH HL
    go_enter Tryz.func27, Tryz.ntmps27
    go_upto_region 1 with fail
    rw [← hW]
    clear hW
    go_upto_region 11 with fail
    clear c2 u0
    go_region_held (fun Y => Y.cell? ⟨P.b, 2, none⟩ = some (.pointer (some ⟨P.a, 0, none⟩)) ∧ Y.cell? ⟨w.heap.size, 0, none⟩ = some (.int .u8 3)) (assumption)
      (first
      | (go_at_call 52; refine hhu.mono ?_; rintro e w2 ⟨rfl, hA, hf⟩; obtain ⟨h2, hF2⟩ := HID.out.stA hA hf (t_hurry _ _); have hS2 : w2.cell? ⟨P.b, 2, none⟩ = some (.pointer (some ⟨P.a, 0, none⟩)) ∧ w2.cell? ⟨w.heap.size, 0, none⟩ = some (.int .u8 3) := ⟨h2.all.1.2.2.1, HS.out w2 hF2⟩))
    all_goals
      go_wp2
      go_ret
      exact ⟨ret_int HE.out.symm, _, by rw [HX.out]; exact ⟨HR.out.mono (by omega), _, _, rfl, h2⟩, HF0.out.trans ((Foot.of_below (Below.refl _ _).drew).trans hF2)⟩
  by_cases h4 : o = 4
  · subst h4
    have HE : Hid (x.ordE 4 p = 0) := rfl
    have HX : Hid (x.ord 4 p = x.setA (x.A.hurry false)) := rfl
    obtain ⟨hr, T0, v, rfl, hi⟩ := hs
    have hD := hi.keep ((Below.refl _ _).drew)
    have hhu := hurry_al P.a P.c x.A false W.drew hD.al
    have HID : Hid (StIn W.drew P T0 v x) := hD
    have HR : Hid (Room (k + 2) (x.setA (x.A.hurry false))) := Room.setA hr (hr.ra.hurry _)
    have c2 := hi.all.1.2.2.1
    have hS : W.drew.cell? ⟨P.b, 2, none⟩ = some (.pointer (some ⟨P.a, 0, none⟩)) ∧ W.drew.cell? ⟨w.heap.size, 0, none⟩ = some (.int .u8 4) := ⟨c2, u0⟩
    have HS : Hid (∀ Y, Foot (setT P T0 v) (setT P T0 v) W.drew Y → Y.cell? ⟨w.heap.size, 0, none⟩ = some (.int .u8 4)) := fun Y hf => (ord_ok 4 Y ao n cap _ ((hf.block _ (heap_lt HH.out) (fun e => by have := HL.out _ e; omega)).trans HH.out)).1
    clear hr hi hD hrW u1 hn hl hp HH HL
    go_enter Tryz.func27, Tryz.ntmps27
    go_upto_region 1 with fail
    rw [← hW]
    clear hW
    go_upto_region 11 with fail
    clear c2 u0
    go_region_held (fun Y => Y.cell? ⟨P.b, 2, none⟩ = some (.pointer (some ⟨P.a, 0, none⟩)) ∧ Y.cell? ⟨w.heap.size, 0, none⟩ = some (.int .u8 4)) (assumption)
      (first
      | (go_at_call 52; refine hhu.mono ?_; rintro e w2 ⟨rfl, hA, hf⟩; obtain ⟨h2, hF2⟩ := HID.out.stA hA hf (t_hurry _ _); have hS2 : w2.cell? ⟨P.b, 2, none⟩ = some (.pointer (some ⟨P.a, 0, none⟩)) ∧ w2.cell? ⟨w.heap.size, 0, none⟩ = some (.int .u8 4) := ⟨h2.all.1.2.2.1, HS.out w2 hF2⟩))
    all_goals
      go_wp2
      go_ret
      exact ⟨ret_int HE.out.symm, _, by rw [HX.out]; exact ⟨HR.out.mono (by omega), _, _, rfl, h2⟩, HF0.out.trans ((Foot.of_below (Below.refl _ _).drew).trans hF2)⟩
  by_cases h5 : o = 5
  · subst h5
    have HE : Hid (x.ordE 5 p = x.putE p) := rfl
    have HX : Hid (x.ord 5 p = x.put_ p) := rfl
    have hc := put_st P x ao n cap p (k + 2) W T hs hn hl hrW hp
    clear hs hrW hn hl hp HH HL
    go_enter Tryz.func27, Tryz.ntmps27
    go_upto_region 1 with fail
    rw [← hW]
    clear hW
    go_wp2_with fail
    refine hc.mono ?_
    rintro e w2 ⟨rfl, T2, h2, hF2⟩
    clear hc
    go_wp2
    go_ret
    exact ⟨ret_int HE.out.symm, _, by rw [HX.out]; exact h2.mono (by omega), HF0.out.trans hF2⟩
  by_cases h6 : o = 6
  · subst h6
    have HE : Hid (x.ordE 6 p = 0) := rfl
    have HX : Hid (x.ord 6 p = x.local_ true) := rfl
    have hc := local_st P x true (k + 2) W T hs
    clear hs hrW u1 hn hl hp HH HL
    go_enter Tryz.func27, Tryz.ntmps27
    go_upto_region 1 with fail
    rw [← hW]
    clear hW
    go_wp2_with fail
    refine hc.mono ?_
    rintro e w2 ⟨rfl, T2, h2, hF2⟩
    clear hc
    go_wp2
    go_ret
    exact ⟨ret_int HE.out.symm, _, by rw [HX.out]; exact h2.mono (by omega), HF0.out.trans hF2⟩
  by_cases h7 : o = 7
  · subst h7
    have HE : Hid (x.ordE 7 p = 0) := rfl
    have HX : Hid (x.ord 7 p = x.local_ false) := rfl
    have hc := local_st P x false (k + 2) W T hs
    clear hs hrW u1 hn hl hp HH HL
    go_enter Tryz.func27, Tryz.ntmps27
    go_upto_region 1 with fail
    rw [← hW]
    clear hW
    go_wp2_with fail
    refine hc.mono ?_
    rintro e w2 ⟨rfl, T2, h2, hF2⟩
    clear hc
    go_wp2
    go_ret
    exact ⟨ret_int HE.out.symm, _, by rw [HX.out]; exact h2.mono (by omega), HF0.out.trans hF2⟩
  by_cases h8 : o = 8
  · subst h8
    have HE : Hid (x.ordE 8 p = 0) := rfl
    have HX : Hid (x.ord 8 p = x.flush) := rfl
    obtain ⟨hr, T0, v, rfl, hi⟩ := hs
    have hho := hi.hold_
    have hfl := flush_any P.hb P.B T0 x.hs W hi.way.hold
    have HI : Hid (StIn W P T0 v x) := hi
    have HR : Hid (Room (k + 2) x.flush) := hr.same rfl rfl rfl rfl rfl rfl
    have c4 := hi.all.1.2.2.2.2.1
    clear hr hi hrW u1 hn hl hp HH HL
    go_enter Tryz.func27, Tryz.ntmps27
    go_upto_region 1 with fail
    rw [← hW]
    clear hW
    go_wp2_with fail
    with_reducible change Calls Tryz.prog (fHold _) _ _ _
    refine hho.mono ?_
    rintro e w1 ⟨rfl, hw1⟩
    obtain rfl := hw1.symm
    clear hho hw1
    go_wp2_with fail
    refine hfl.mono ?_
    rintro e w2 ⟨rfl, T1, hat, hf⟩
    obtain ⟨hw2, hF2⟩ := HI.out.way.step hat hf
    obtain ⟨h2, hF3⟩ := HI.out.stW hw2 rfl hF2
    clear hfl hat hf hw2 hF2 c4
    go_wp2
    go_ret
    exact ⟨ret_int HE.out.symm, _, by rw [HX.out]; exact ⟨HR.out.mono (by omega), _, _, rfl, h2⟩, HF0.out.trans hF3⟩
  by_cases h9 : o = 9
  · subst h9
    have HE : Hid (x.ordE 9 p = x.resumeE) := rfl
    have HX : Hid (x.ord 9 p = x.resume) := rfl
    have hc := resume_any P x (k + 2) W T hs
    clear hs hrW u1 hn hl hp HH HL
    go_enter Tryz.func27, Tryz.ntmps27
    go_upto_region 1 with fail
    rw [← hW]
    clear hW
    go_wp2_with fail
    refine hc.mono ?_
    rintro e w2 ⟨rfl, T2, h2, hF2⟩
    clear hc
    go_wp2
    go_ret
    exact ⟨ret_int HE.out.symm, _, by rw [HX.out]; exact h2.mono (by omega), HF0.out.trans hF2⟩
  by_cases h10 : o = 10
  · subst h10
    have HE : Hid (x.ordE 10 p = x.busyE) := rfl
    have HX : Hid (x.ord 10 p = x.busy true) := rfl
    have hc := busy_any P x true (k + 2) W T hs
    clear hs hrW u1 hn hl hp HH HL
    go_enter Tryz.func27, Tryz.ntmps27
    go_upto_region 1 with fail
    rw [← hW]
    clear hW
    go_wp2_with fail
    refine hc.mono ?_
    rintro e w2 ⟨rfl, T2, h2, hF2⟩
    clear hc
    go_wp2
    go_ret
    exact ⟨ret_int HE.out.symm, _, by rw [HX.out]; exact h2.mono (by omega), HF0.out.trans hF2⟩
  by_cases h11 : o = 11
  · subst h11
    have HE : Hid (x.ordE 11 p = x.busyE) := rfl
    have HX : Hid (x.ord 11 p = x.busy false) := rfl
    have hc := busy_any P x false (k + 2) W T hs
    clear hs hrW u1 hn hl hp HH HL
    go_enter Tryz.func27, Tryz.ntmps27
    go_upto_region 1 with fail
    rw [← hW]
    clear hW
    go_wp2_with fail
    refine hc.mono ?_
    rintro e w2 ⟨rfl, T2, h2, hF2⟩
    clear hc
    go_wp2
    go_ret
    exact ⟨ret_int HE.out.symm, _, by rw [HX.out]; exact h2.mono (by omega), HF0.out.trans hF2⟩
  have HE : Hid (x.ordE o p = 1) := by show _ = _; simp [St.ordE, h1, h2, h3, h4, h5, h6, h7, h8, h9, h10, h11]
  have HX : Hid (x.ord o p = x) := by show _ = _; simp [St.ord, h1, h2, h3, h4, h5, h6, h7, h8, h9, h10, h11]
  have b1 : (o == 1) = false := by rw [beq_eq_false_iff_ne]; exact h1
  have b2 : (o == 2) = false := by rw [beq_eq_false_iff_ne]; exact h2
  have b3 : (o == 3) = false := by rw [beq_eq_false_iff_ne]; exact h3
  have b4 : (o == 4) = false := by rw [beq_eq_false_iff_ne]; exact h4
  have b5 : (o == 5) = false := by rw [beq_eq_false_iff_ne]; exact h5
  have b6 : (o == 6) = false := by rw [beq_eq_false_iff_ne]; exact h6
  have b7 : (o == 7) = false := by rw [beq_eq_false_iff_ne]; exact h7
  have b8 : (o == 8) = false := by rw [beq_eq_false_iff_ne]; exact h8
  have b9 : (o == 9) = false := by rw [beq_eq_false_iff_ne]; exact h9
  have b10 : (o == 10) = false := by rw [beq_eq_false_iff_ne]; exact h10
  have b11 : (o == 11) = false := by rw [beq_eq_false_iff_ne]; exact h11
  clear hs hrW u1 hn hl hp HH HL h1 h2 h3 h4 h5 h6 h7 h8 h9 h10 h11
  go_enter Tryz.func27, Tryz.ntmps27
  go_upto_region 1 with fail
  rw [← hW]
  clear hW
  go_wp2
  go_ret
  exact ⟨ret_int HE.out.symm, _, by rw [HX.out]; exact HSW.out.mono (by omega), HF0.out⟩
end Go.Proofs.YtldjglmelbkngaaGreat.Tape
