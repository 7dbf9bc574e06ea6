/- The contract of a State's Next. -/
import Derived.Test.YtldjglmelbkngaaGreatState13
namespace Go.Proofs.YtldjglmelbkngaaGreat.Tape
open Go.ChangeShapes Go.WideShapes Go.ChangeAt Go.RowKit
set_option linter.unusedVariables false

attribute [local go_sem ↓] ldU_def stU_def
attribute [local go_sem] m_next c_next m_fill c_fill

set_option maxRecDepth 100000 in
set_option maxHeartbeats 4000000 in
theorem next_st (P : Pl) (x : St) (k : Nat) (w : World) (T : Nat → Prop) (h : StAt w P k T x) : Calls Tryz.prog 21 #[.pointer (some ⟨P.b, 0, none⟩)] w fun e w' => UOut e x.nk x.ns ∧ ∃ T', StAt w' P k T' x.next ∧ Foot T T' w w' := by
  obtain ⟨W, hW, hB, hh⟩ := new_unit w
  have hsW := h.keep hB
  have HF0 : Hid (Foot T T w W) := Foot.of_below hB
  have HBX : Hid (∀ T1 Y, Foot T T1 W Y → Y.heap[w.heap.size]? = some (.cells zeroU 32 (0, 0))) := fun T1 Y hf => (hf.block _ (heap_lt hh) (fun e => by have := (h.lt.1 _ e).2; omega)).trans hh
  have HNT : Hid (∀ T1 Y, Foot T T1 W Y → ¬ T1 w.heap.size) := fun T1 Y hf ht => by
    rcases hf.moved _ ht with e | e
    · have := (h.lt.1 _ e).2
      omega
    · have := heap_lt hh
      omega
  have HSW : Hid (StAt W P k T x) := hsW
  have HX0 : Hid (x.next = if x.s = 4 then x.nextS else x) := rfl
  have HK : Hid (x.nk = if x.s = 0 ∨ x.s = 1 then 1 else if x.s = 4 then (if x.J.due = true then 1 else kd (x.wt.nx x.hs).2.2) else if x.s ≠ 2 ∧ x.own = true then 1 else 0) := rfl
  have HN : Hid (x.ns = if x.s = 0 ∨ x.s = 1 then x.A.sends else if x.s = 4 then (if x.J.due = true then 5 else 0) else if x.s ≠ 2 ∧ x.own = true then 4 else 0) := rfl
  have hns := nextS_any P x k W T hsW
  obtain ⟨hr, T0, v, rfl, hi⟩ := hsW
  have HI : Hid (StIn W P T0 v x) := hi
  obtain ⟨⟨c0, -, c2, -, c4, c5, -⟩, -⟩ := hi.all
  clear hB hh h hr
  by_cases h01 : x.s = 0 ∨ x.s = 1
  · have HX : Hid (x.next = x) := by show _ = _; rw [HX0.out, if_neg (by omega)]
    have hk : x.nk = 1 := by rw [HK.out, if_pos h01]
    have hn : x.ns = x.A.sends := by rw [HN.out, if_pos h01]
    rw [hk, hn]
    have hD := hi.keep ((Below.refl _ _).drew)
    have hse := sends_al P.a P.c x.A W.drew hD.al
    have hst := hD.status_ x.A.sends
    obtain ⟨u, hu⟩ : ∃ u, u = stUnit x.wt x.hs x.A.sends := ⟨_, rfl⟩
    have HU8 : Hid (u.size = 8 ∧ u.all (·.oneCell') = true) := ⟨by rw [hu]; rfl, by rw [hu]; simp [stUnit, Value.oneCell']⟩
    have HU : Hid (u = #[.int .u8 x.wt.last, .int .u8 x.hs.last, .bool x.wt.bib, .bool x.wt.fib, .int .u8 1, .int .u8 x.A.sends, .bool false, .slice none 0 0]) := by show _ = _; rw [hu]; rfl
    rw [← hu] at hst
    have HID : Hid (StIn W.drew P T0 v x) := hD
    have hS : W.drew.cell? ⟨P.b, 4, none⟩ = some (.iface (wT P.cy) (.pointer (some ⟨P.p, 0, none⟩))) ∧ W.drew.cell? ⟨P.b, 2, none⟩ = some (.pointer (some ⟨P.a, 0, none⟩)) := ⟨c4, c2⟩
    generalize x.A.sends = sd at *
    generalize x.s = S at c0 h01
    clear hk hn HK HN HX0 hns hi hD hu c5
    rcases h01 with rfl | rfl
    all_goals
      go_enter Tryz.func21, Tryz.ntmps21
      go_upto_region 1 with fail
      rw [← hW]
      clear hW
      go_upto_region 4 with fail
      clear c0 c2 c4
      go_region_held (fun Y => Y.cell? ⟨P.b, 4, none⟩ = some (.iface (wT P.cy) (.pointer (some ⟨P.p, 0, none⟩))) ∧ Y.cell? ⟨P.b, 2, none⟩ = some (.pointer (some ⟨P.a, 0, none⟩))) (assumption)
        (first
        | (go_at_call 43; refine hse.mono ?_; rintro e w1 ⟨rfl, hw1⟩; obtain rfl := hw1.symm; clear hw1)
        | (go_at_call 42; refine hst.mono ?_; rintro e w2 ⟨rfl, hB2⟩; have h2 := HID.out.keep hB2; have hF2 : Foot (setT P T0 v) (setT P T0 v) W w2 := (Foot.of_below (Below.refl _ _).drew).trans (Foot.of_below hB2); have hb9 := HBX.out _ _ hF2; have hs9 := st_unit (ds := u) hb9 rfl HU8.out.1 HU8.out.2; have hg9 := putU_gb w2 w.heap.size u; have HL9 : Hid ((loadVar 32 ⟨w.heap.size, 0, none⟩).run Tryz.prog (putU w2 w.heap.size u) = .ok (.agg u) (putU w2 w.heap.size u)) := (ld_unit (putU_heap (ds := u) hb9 (by rw [HU8.out.1]; rfl)) HU8.out.1).2; have h9 := h2.box hg9 (HNT.out _ _ hF2) hb9; have hS2 : w2.cell? ⟨P.b, 4, none⟩ = some (.iface (wT P.cy) (.pointer (some ⟨P.p, 0, none⟩))) ∧ w2.cell? ⟨P.b, 2, none⟩ = some (.pointer (some ⟨P.a, 0, none⟩)) := ⟨h2.all.1.2.2.2.2.1, h2.all.1.2.2.1⟩; have hS9 : (putU w2 w.heap.size u).cell? ⟨P.b, 4, none⟩ = some (.iface (wT P.cy) (.pointer (some ⟨P.p, 0, none⟩))) ∧ (putU w2 w.heap.size u).cell? ⟨P.b, 2, none⟩ = some (.pointer (some ⟨P.a, 0, none⟩)) := ⟨h9.all.1.2.2.2.2.1, h9.all.1.2.2.1⟩; have HS9 := (show Hid _ from (And.intro h9 ((HF0.out.trans hF2).new_ hg9 (Nat.le_refl _)))); clear h2 hF2 hb9 hg9 h9))
      all_goals
        go_wp2_with fail
        refine bodyPost_ret (v := .agg u) (by simp [results, Tryz.results21, asAddr, HL9.out]) rfl ?_
        exact ⟨⟨_, _, _, _, _, _, _, by rw [HU.out]⟩, _, by rw [HX.out]; exact ⟨HSW.out.1, _, _, rfl, HS9.out.1⟩, HS9.out.2⟩
  have k0 : (x.s == 0) = false := by rw [beq_eq_false_iff_ne]; exact fun e => h01 (.inl e)
  have k1 : (x.s == 1) = false := by rw [beq_eq_false_iff_ne]; exact fun e => h01 (.inr e)
  by_cases h4 : x.s = 4
  · have HX : Hid (x.next = x.nextS) := by show _ = _; rw [HX0.out, if_pos h4]
    have hk : x.nk = if x.J.due = true then 1 else kd (x.wt.nx x.hs).2.2 := by rw [HK.out, if_neg h01, if_pos h4]
    have hn : x.ns = if x.J.due = true then 5 else 0 := by rw [HN.out, if_neg h01, if_pos h4]
    rw [← hk, ← hn] at hns
    rw [h4] at c0
    generalize x.nk = nk at *
    generalize x.ns = ns at *
    clear hk hn HK HN HX0 hi c2 c4 c5 h01 h4 k0 k1
    go_enter Tryz.func21, Tryz.ntmps21
    go_upto_region 1 with fail
    rw [← hW]
    clear hW
    go_wp2_with fail
    refine hns.mono ?_
    rintro e w2 ⟨⟨a, b, c, d, ao, n, cap, rfl⟩, T2, h2, hF2⟩
    obtain ⟨u, hu⟩ : ∃ u : Array Value, u = #[.int .u8 a, .int .u8 b, .bool c, .bool d, .int .u8 nk, .int .u8 ns, .bool false, .slice ao n cap] := ⟨_, rfl⟩
    have HU8 : Hid (u.size = 8 ∧ u.all (·.oneCell') = true) := ⟨by rw [hu]; rfl, by rw [hu]; simp [Value.oneCell']⟩
    have HU : Hid (u = #[.int .u8 a, .int .u8 b, .bool c, .bool d, .int .u8 nk, .int .u8 ns, .bool false, .slice ao n cap]) := hu
    rw [← hu]
    clear hns
    have hb9 := HBX.out _ _ hF2
    have hs9 := st_unit (ds := u) hb9 rfl HU8.out.1 HU8.out.2
    have hg9 := putU_gb w2 w.heap.size u
    have HL9 : Hid ((loadVar 32 ⟨w.heap.size, 0, none⟩).run Tryz.prog (putU w2 w.heap.size u) = .ok (.agg u) (putU w2 w.heap.size u)) := (ld_unit (putU_heap (ds := u) hb9 (by rw [HU8.out.1]; rfl)) HU8.out.1).2
    have HS9 := (show Hid _ from (And.intro (StAt.box h2 hg9 (HNT.out _ _ hF2) hb9) ((HF0.out.trans hF2).new_ hg9 (Nat.le_refl _))))
    clear hb9 hg9 hu h2 hF2
    generalize putU w2 w.heap.size u = w9 at *
    go_wp2_with fail
    refine bodyPost_ret (v := .agg u) (by simp [results, Tryz.results21, asAddr, HL9.out]) rfl ?_
    exact ⟨⟨_, _, _, _, _, _, _, by rw [HU.out]⟩, _, by rw [HX.out]; exact HS9.out.1, HS9.out.2⟩
  have k4 : (x.s == 4) = false := by rw [beq_eq_false_iff_ne]; exact h4
  have HX : Hid (x.next = x) := by show _ = _; rw [HX0.out, if_neg h4]
  have HK2 : Hid (x.nk = if x.s ≠ 2 ∧ x.own = true then 1 else 0) := by show _ = _; rw [HK.out, if_neg h01, if_neg h4]
  have HN2 : Hid (x.ns = if x.s ≠ 2 ∧ x.own = true then 4 else 0) := by show _ = _; rw [HN.out, if_neg h01, if_neg h4]
  clear hns HK HN HX0
  by_cases hso : x.s ≠ 2 ∧ x.own = true
  · have hk : x.nk = 1 := by rw [HK2.out, if_pos hso]
    have hn : x.ns = 4 := by rw [HN2.out, if_pos hso]
    rw [hk, hn]
    have hst := hi.status_ 4
    rw [hso.2] at c5
    have k2 : (x.s != 2) = true := by rw [bne_iff_ne]; exact hso.1
    obtain ⟨u, hu⟩ : ∃ u, u = stUnit x.wt x.hs 4 := ⟨_, rfl⟩
    have HU8 : Hid (u.size = 8 ∧ u.all (·.oneCell') = true) := ⟨by rw [hu]; rfl, by rw [hu]; simp [stUnit, Value.oneCell']⟩
    have HU : Hid (u = #[.int .u8 x.wt.last, .int .u8 x.hs.last, .bool x.wt.bib, .bool x.wt.fib, .int .u8 1, .int .u8 4, .bool false, .slice none 0 0]) := by show _ = _; rw [hu]; rfl
    rw [← hu] at hst
    generalize x.s = S at c0 k0 k1 k2 k4
    clear hk hn HK2 HN2 hi h01 h4 hso
    go_enter Tryz.func21, Tryz.ntmps21
    go_upto_region 1 with fail
    rw [← hW]
    clear hW
    go_wp2_with fail
    refine hst.mono ?_
    rintro e w2 ⟨rfl, hB2⟩
    have h2 : StAt w2 P k (setT P T0 v) x := HSW.out.keep hB2
    have hF2 : Foot (setT P T0 v) (setT P T0 v) W w2 := Foot.of_below hB2
    clear hst hB2 c0 c2 c4 c5 k0 k1 k2 k4
    have hb9 := HBX.out _ _ hF2
    have hs9 := st_unit (ds := u) hb9 rfl HU8.out.1 HU8.out.2
    have hg9 := putU_gb w2 w.heap.size u
    have HL9 : Hid ((loadVar 32 ⟨w.heap.size, 0, none⟩).run Tryz.prog (putU w2 w.heap.size u) = .ok (.agg u) (putU w2 w.heap.size u)) := (ld_unit (putU_heap (ds := u) hb9 (by rw [HU8.out.1]; rfl)) HU8.out.1).2
    have HS9 := (show Hid _ from (And.intro (StAt.box h2 hg9 (HNT.out _ _ hF2) hb9) ((HF0.out.trans hF2).new_ hg9 (Nat.le_refl _))))
    clear hb9 hg9 hu h2 hF2
    generalize putU w2 w.heap.size u = w9 at *
    go_wp2_with fail
    refine bodyPost_ret (v := .agg u) (by simp [results, Tryz.results21, asAddr, HL9.out]) rfl ?_
    exact ⟨⟨_, _, _, _, _, _, _, by rw [HU.out]⟩, _, by rw [HX.out]; exact HS9.out.1, HS9.out.2⟩
  · have hk : x.nk = 0 := by rw [HK2.out, if_neg hso]
    have hn : x.ns = 0 := by rw [HN2.out, if_neg hso]
    rw [hk, hn]
    have hfi := hi.fill_
    obtain ⟨u, hu⟩ : ∃ u, u = uC x.wt.last x.hs.last x.wt.bib x.wt.fib 0 (.slice none 0 0) := ⟨_, rfl⟩
    have HU8 : Hid (u.size = 8 ∧ u.all (·.oneCell') = true) := ⟨by rw [hu]; rfl, by rw [hu]; exact uC_one _ _ _ _ _ _ _ _⟩
    have HU : Hid (u = #[.int .u8 x.wt.last, .int .u8 x.hs.last, .bool x.wt.bib, .bool x.wt.fib, .int .u8 0, .int .u8 0, .bool false, .slice none 0 0]) := by show _ = _; rw [hu]; rfl
    rw [← hu] at hfi
    clear hk hn HK2 HN2 hi
    have hso' : x.s = 2 ∨ (x.s ≠ 2 ∧ x.own = false) := by
      by_cases h2 : x.s = 2
      · exact .inl h2
      · refine .inr ⟨h2, ?_⟩
        cases hx : x.own
        · rfl
        · exact absurd ⟨h2, hx⟩ hso
    clear hso h01 h4
    rcases hso' with h2' | ⟨h2', ho'⟩
    · rw [h2'] at c0
      clear h2' k0 k1 k4
      go_enter Tryz.func21, Tryz.ntmps21
      go_upto_region 1 with fail
      rw [← hW]
      clear hW
      go_wp2_with fail
      with_reducible change Calls Tryz.prog (fFill _) _ _ _
      refine hfi.mono ?_
      rintro e w2 ⟨rfl, hB2⟩
      have h2 : StAt w2 P k (setT P T0 v) x := HSW.out.keep hB2
      have hF2 : Foot (setT P T0 v) (setT P T0 v) W w2 := Foot.of_below hB2
      clear hfi hB2 c0 c2 c4 c5
      have hb9 := HBX.out _ _ hF2
      have hs9 := st_unit (ds := u) hb9 rfl HU8.out.1 HU8.out.2
      have hg9 := putU_gb w2 w.heap.size u
      have HL9 : Hid ((loadVar 32 ⟨w.heap.size, 0, none⟩).run Tryz.prog (putU w2 w.heap.size u) = .ok (.agg u) (putU w2 w.heap.size u)) := (ld_unit (putU_heap (ds := u) hb9 (by rw [HU8.out.1]; rfl)) HU8.out.1).2
      have HS9 := (show Hid _ from (And.intro (StAt.box h2 hg9 (HNT.out _ _ hF2) hb9) ((HF0.out.trans hF2).new_ hg9 (Nat.le_refl _))))
      clear hb9 hg9 hu h2 hF2
      generalize putU w2 w.heap.size u = w9 at *
      go_wp2_with fail
      refine bodyPost_ret (v := .agg u) (by simp [results, Tryz.results21, asAddr, HL9.out]) rfl ?_
      exact ⟨⟨_, _, _, _, _, _, _, by rw [HU.out]⟩, _, by rw [HX.out]; exact HS9.out.1, HS9.out.2⟩
    · rw [ho'] at c5
      have k2 : (x.s != 2) = true := by rw [bne_iff_ne]; exact h2'
      generalize x.s = S at c0 k0 k1 k2 k4
      clear h2' ho'
      go_enter Tryz.func21, Tryz.ntmps21
      go_upto_region 1 with fail
      rw [← hW]
      clear hW
      go_wp2_with fail
      with_reducible change Calls Tryz.prog (fFill _) _ _ _
      refine hfi.mono ?_
      rintro e w2 ⟨rfl, hB2⟩
      have h2 : StAt w2 P k (setT P T0 v) x := HSW.out.keep hB2
      have hF2 : Foot (setT P T0 v) (setT P T0 v) W w2 := Foot.of_below hB2
      clear hfi hB2 c0 c2 c4 c5
      have hb9 := HBX.out _ _ hF2
      have hs9 := st_unit (ds := u) hb9 rfl HU8.out.1 HU8.out.2
      have hg9 := putU_gb w2 w.heap.size u
      have HL9 : Hid ((loadVar 32 ⟨w.heap.size, 0, none⟩).run Tryz.prog (putU w2 w.heap.size u) = .ok (.agg u) (putU w2 w.heap.size u)) := (ld_unit (putU_heap (ds := u) hb9 (by rw [HU8.out.1]; rfl)) HU8.out.1).2
      have HS9 := (show Hid _ from (And.intro (StAt.box h2 hg9 (HNT.out _ _ hF2) hb9) ((HF0.out.trans hF2).new_ hg9 (Nat.le_refl _))))
      clear hb9 hg9 hu h2 hF2
      generalize putU w2 w.heap.size u = w9 at *
      go_wp2_with fail
      refine bodyPost_ret (v := .agg u) (by simp [results, Tryz.results21, asAddr, HL9.out]) rfl ?_
      exact ⟨⟨_, _, _, _, _, _, _, by rw [HU.out]⟩, _, by rw [HX.out]; exact HS9.out.1, HS9.out.2⟩
end Go.Proofs.YtldjglmelbkngaaGreat.Tape
