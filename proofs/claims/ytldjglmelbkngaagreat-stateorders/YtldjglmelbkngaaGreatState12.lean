/- The contract of a State's Hear. -/
import Derived.Test.YtldjglmelbkngaaGreatState11
namespace Go.Proofs.YtldjglmelbkngaaGreat.Tape
open Go.ChangeShapes Go.WideShapes Go.ChangeAt Go.RowKit
set_option linter.unusedVariables false

attribute [local go_sem ↓] ldU_def

set_option maxRecDepth 100000 in
set_option maxHeartbeats 4000000 in
theorem hear_any (P : Pl) (x : St) (b f kk st : Int) (ub uf wd : Bool) (ao : Option Addr) (m cap : Nat) (xs : List Int) (h0 : 0 ≤ b) (h1 : b ≤ 255) (k : Nat) (w : World) (T : Nat → Prop) (h : StAt w P (k + 10) T x) (hm : xs.length = m) (hinf : InfoIn w T ao cap xs) :
    Calls Tryz.prog 24 #[.pointer (some ⟨P.b, 0, none⟩), .agg #[.int .u8 b, .int .u8 f, .bool ub, .bool uf, .int .u8 kk, .int .u8 st, .bool wd, .slice ao m cap]] w fun e w' => e = .returned (.tuple #[]) ∧ ∃ T' q, StAt w' P k T' (x.hear b f kk st ub uf q) ∧ Foot T T' w w' ∧ (x.hgets b f kk ub uf = true → MsgAt w' T' q xs) := by
  obtain ⟨W, hW, hB, hh⟩ := box_unit w #[.int .u8 b, .int .u8 f, .bool ub, .bool uf, .int .u8 kk, .int .u8 st, .bool wd, .slice ao m cap]
  have hsW := h.keep hB
  have HF0 : Hid (Foot T T w W) := Foot.of_below hB
  have HIN : Hid (InfoIn W T ao cap xs) := hinf.foot (Foot.of_below hB)
  have HBX : Hid (∀ T1 Y, Foot T T1 W Y → Y.heap[w.heap.size]? = some (.cells #[.int .u8 b, .int .u8 f, .bool ub, .bool uf, .int .u8 kk, .int .u8 st, .bool wd, .slice ao m cap] 32 (0, 0))) := fun T1 Y hf => (hf.block _ (heap_lt hh) (fun e => by have := (h.lt.1 _ e).2; omega)).trans hh
  have hco := count_any P x false (k + 7) W T hsW
  have HG : Hid (x.hgets b f kk ub uf = (decide ((x.count false).s ≠ 0 ∧ (x.count false).s ≠ 1 ∧ kk ≠ 1) && (x.count false).gets b f kk ub uf)) := rfl
  have HE : Hid (∀ q, x.hear b f kk st ub uf q = if (x.count false).s = 0 then x.count false else if kk = 1 then (if (x.count false).s = 1 then ((x.count false).setA ((x.count false).A.heard st)).failFor ((x.count false).A.why st) else (x.count false).heardLink st) else if (x.count false).s = 1 then x.count false else (x.count false).heardOther b f kk ub uf q) := fun _ => rfl
  generalize x.count false = y at *
  clear hB hh hinf hsW h
  go_enter Tryz.func24, Tryz.ntmps24
  go_upto_region 1 with fail
  rw [← hW]
  clear hW
  go_wp2_with fail
  refine hco.mono ?_
  rintro e w1 ⟨rfl, T1, ⟨hr1, T01, v1, rfl, h1'⟩, hF1⟩
  have HF1 : Hid (Foot T (setT P T01 v1) W w1) := hF1
  have HI1 : Hid (StIn w1 P T01 v1 y) := h1'
  have HR1 : Hid (Room (k + 7) y) := hr1
  have hbx := HBX.out _ _ hF1
  obtain ⟨⟨c0, -, c2, -⟩, -⟩ := h1'.all
  obtain ⟨⟨-, -, -, -, u4, u5, -⟩, -⟩ := unit_cells hbx
  have hlb := (ld_unit hbx rfl).1
  clear hco hF1 h1' hr1 hbx
  by_cases hs0 : y.s = 0
  · have HX : Hid (∀ q, x.hear b f kk st ub uf q = y) := fun q => by rw [HE.out, if_pos hs0]
    have HG2 : Hid (x.hgets b f kk ub uf = false) := by show _ = _; rw [HG.out, decide_eq_false (fun e => e.1 hs0)]; rfl
    rw [hs0] at c0
    clear hs0 HE HG c2 u4 u5 hlb
    go_wp2_with fail
    refine bodyPost_end (results_none rfl _ _ _) rfl ?_
    exact ⟨rfl, _, nilV, by rw [HX.out]; exact ⟨HR1.out.mono (by omega), _, _, rfl, HI1.out⟩, HF0.out.trans HF1.out, fun e => by rw [HG2.out] at e; cases e⟩
  have ks0 : (y.s == 0) = false := by rw [beq_eq_false_iff_ne]; exact hs0
  by_cases hk : kk = 1
  · subst hk
    have HG2 : Hid (x.hgets b f 1 ub uf = false) := by show _ = _; rw [HG.out, decide_eq_false (fun e => e.2.2 rfl)]; rfl
    by_cases hs1 : y.s = 1
    · have HX : Hid (∀ q, x.hear b f 1 st ub uf q = (y.setA (y.A.heard st)).failFor (y.A.why st)) := fun q => by rw [HE.out, if_neg hs0, if_pos rfl, if_pos hs1]
      rw [hs1] at c0
      have hD := HI1.out.keep ((Below.refl _ _).drew)
      have hhe := heard_al P.a P.c y.A st HR1.out.st w1.drew hD.al
      have HID : Hid (StIn w1.drew P T01 v1 y) := hD
      have hS : w1.drew.cell? ⟨P.b, 2, none⟩ = some (.pointer (some ⟨P.a, 0, none⟩)) ∧ w1.drew.cell? ⟨w.heap.size, 5, none⟩ = some (.int .u8 st) := ⟨c2, u5⟩
      have HRH : Hid (Room (k + 2) (y.setA (y.A.heard st))) := Room.setA (HR1.out.mono (by omega)) ((HR1.out.ra.heard st).mono (by omega))
      have HBX2 : Hid (∀ Y, Foot (setT P T01 v1) (setT P T01 v1) w1 Y → Y.cell? ⟨w.heap.size, 5, none⟩ = some (.int .u8 st)) := fun Y hf => (unit_cells (HBX.out _ _ (HF1.out.trans hf))).1.2.2.2.2.2.1
      clear hs0 hs1 ks0 HE HG hD HR1 hlb
      go_upto_region 5 with fail
      clear c0 c2 u4 u5
      go_region_held (fun Y => Y.cell? ⟨P.b, 2, none⟩ = some (.pointer (some ⟨P.a, 0, none⟩)) ∧ Y.cell? ⟨w.heap.size, 5, none⟩ = some (.int .u8 st)) (assumption)
        (first
        | (go_at_call 47; refine hhe.mono ?_; rintro e w2 ⟨rfl, hA, hf⟩; obtain ⟨h2, hF2⟩ := HID.out.stA hA hf (t_heard _ _); have hF2' : Foot (setT P T01 v1) (setT P T01 v1) w1 w2 := (Foot.of_below (Below.refl _ _).drew).trans hF2; have hS2 : w2.cell? ⟨P.b, 2, none⟩ = some (.pointer (some ⟨P.a, 0, none⟩)) ∧ w2.cell? ⟨w.heap.size, 5, none⟩ = some (.int .u8 st) := ⟨h2.all.1.2.2.1, HBX2.out w2 hF2'⟩; have hff := failFor_any P (y.setA (y.A.heard st)) (y.A.why st) k w2 _ ⟨HRH.out, _, _, rfl, h2⟩; have HF2 : Hid (Foot (setT P T01 v1) (setT P T01 v1) w1 w2) := hF2'; have HBX3 : Hid (∀ T3 Y, Foot (setT P T01 v1) T3 w2 Y → StAt Y P k T3 ((y.setA (y.A.heard st)).failFor (y.A.why st)) → Y.cell? ⟨P.b, 2, none⟩ = some (.pointer (some ⟨P.a, 0, none⟩)) ∧ Y.cell? ⟨w.heap.size, 5, none⟩ = some (.int .u8 st)) := (fun T3 Y hf hy => by obtain ⟨-, T03, v3, rfl, hy⟩ := hy; exact ⟨hy.all.1.2.2.1, (unit_cells (HBX.out _ _ ((HF1.out.trans hF2').trans hf))).1.2.2.2.2.2.1⟩); clear h2 hF2 hF2' hA hf)
        | (go_at_call 46; refine hff.mono ?_; rintro e w3 ⟨rfl, T3, h3, hF3⟩; have hS3 := HBX3.out T3 w3 hF3 h3))
      all_goals
        go_wp2
        refine bodyPost_end (results_none rfl _ _ _) rfl ?_
        exact ⟨rfl, _, nilV, by rw [HX.out]; exact h3, HF0.out.trans (HF1.out.trans (HF2.out.trans hF3)), fun e => by rw [HG2.out] at e; cases e⟩
    · have HX : Hid (∀ q, x.hear b f 1 st ub uf q = y.heardLink st) := fun q => by rw [HE.out, if_neg hs0, if_pos rfl, if_neg hs1]
      have ks1 : (y.s == 1) = false := by rw [beq_eq_false_iff_ne]; exact hs1
      have hhl := heardLink_any P y st k w1 _ ⟨HR1.out.mono (by omega), _, _, rfl, HI1.out⟩
      generalize hS : y.s = S at c0 ks0 ks1
      clear hs0 hs1 HE HG c2 hlb hS
      go_wp2_with fail
      refine hhl.mono ?_
      rintro e w3 ⟨rfl, T3, h3, hF3⟩
      go_wp2
      refine bodyPost_end (results_none rfl _ _ _) rfl ?_
      exact ⟨rfl, _, nilV, by rw [HX.out]; exact h3, HF0.out.trans (HF1.out.trans hF3), fun e => by rw [HG2.out] at e; cases e⟩
  have kk1 : (kk == 1) = false := by rw [beq_eq_false_iff_ne]; exact hk
  by_cases hs1 : y.s = 1
  · have HX : Hid (∀ q, x.hear b f kk st ub uf q = y) := fun q => by rw [HE.out, if_neg hs0, if_neg hk, if_pos hs1]
    have HG2 : Hid (x.hgets b f kk ub uf = false) := by show _ = _; rw [HG.out, decide_eq_false (fun e => e.2.1 hs1)]; rfl
    rw [hs1] at c0
    clear hs0 hs1 ks0 HE HG c2 u5 hlb
    go_wp2_with fail
    refine bodyPost_end (results_none rfl _ _ _) rfl ?_
    exact ⟨rfl, _, nilV, by rw [HX.out]; exact ⟨HR1.out.mono (by omega), _, _, rfl, HI1.out⟩, HF0.out.trans HF1.out, fun e => by rw [HG2.out] at e; cases e⟩
  · have HX : Hid (∀ q, x.hear b f kk st ub uf q = y.heardOther b f kk ub uf q) := fun q => by rw [HE.out, if_neg hs0, if_neg hk, if_neg hs1]
    have HG2 : Hid (x.hgets b f kk ub uf = y.gets b f kk ub uf) := by show _ = _; rw [HG.out, decide_eq_true ⟨hs0, hs1, hk⟩]; rfl
    have ks1 : (y.s == 1) = false := by rw [beq_eq_false_iff_ne]; exact hs1
    have ks2 : (y.s != 1) = true := by rw [bne_iff_ne]; exact hs1
    have hho := heardOther_any P y b f kk st ub uf wd ao m cap xs h0 h1 k w1 _ ⟨HR1.out, _, _, rfl, HI1.out⟩ hm (HIN.out.foot HF1.out)
    generalize hS : y.s = S at c0 ks0 ks1 ks2
    clear hs0 hs1 HE HG c2 hS u5
    go_wp2_with fail
    refine hho.mono ?_
    rintro e w3 ⟨rfl, T3, q, h3, hF3, hq⟩
    go_wp2
    refine bodyPost_end (results_none rfl _ _ _) rfl ?_
    exact ⟨rfl, _, q, by rw [HX.out]; exact h3, HF0.out.trans (HF1.out.trans hF3), fun e => hq (by rw [← HG2.out]; exact e)⟩
end Go.Proofs.YtldjglmelbkngaaGreat.Tape
