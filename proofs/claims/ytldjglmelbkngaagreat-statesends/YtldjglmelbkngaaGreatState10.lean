/- The contracts of a State's hearAnswer. -/
import Derived.Test.YtldjglmelbkngaaGreatState9
import Derived.Test.YtldjglmelbkngaaGreatWay7
namespace Go.Proofs.YtldjglmelbkngaaGreat.Tape
open Go.ChangeShapes Go.WideShapes Go.ChangeAt Go.RowKit
set_option linter.unusedVariables false

attribute [local go_sem ↓] ldU_def
attribute [local go_sem] m_ans c_ans n_ans m_take c_take n_take

theorem an_err (x : Wt) (s : Hs) (b : Int) (ub : Bool) : (x.an s b ub).2.2 = 0 ∨ (x.an s b ub).2.2 = 10 := by
  cases x <;> simp only [Wt.an] <;> split <;> (try split) <;> simp

theorem StIn.ans_ {w : World} {P : Pl} {T0 : Nat → Prop} {v : Value} {x : St} (h : StIn w P T0 v x) (b f kk st : Int) (ub uf wd : Bool) (V : Value) (h0 : 0 ≤ b) (h1 : b ≤ 255) :
    Calls Tryz.prog (fAns P.cy) #[.pointer (some ⟨P.p, 0, none⟩), .agg #[.int .u8 b, .int .u8 f, .bool ub, .bool uf, .int .u8 kk, .int .u8 st, .bool wd, V]] w fun e w' => e = .returned (.tuple #[.int .i64 (x.wt.an x.hs b ub).2.1, .int .i64 (x.wt.an x.hs b ub).2.2]) ∧ ∃ T1, StIn w' P T1 v (x.ans b ub) ∧ Foot (setT P T0 v) (setT P T1 v) w w' := by
  have hw := wans_any P.p P.hb P.B T0 x.wt x.hs b f kk st ub uf wd V w h.way h0 h1
  rw [h.cyc] at hw
  refine hw.mono ?_
  rintro e w' ⟨rfl, T1, hW, hf⟩
  obtain ⟨h1, h2⟩ := h.stW hW (cyc_an _ _ _ _) hf
  exact ⟨rfl, T1, h1, h2⟩

set_option maxRecDepth 100000 in
set_option maxHeartbeats 4000000 in
theorem hearAns_any (P : Pl) (x : St) (b f kk st : Int) (ub uf wd : Bool) (V : Value) (h0 : 0 ≤ b) (h1 : b ≤ 255) : SC P 2 85 #[.pointer (some ⟨P.b, 0, none⟩), .agg #[.int .u8 b, .int .u8 f, .bool ub, .bool uf, .int .u8 kk, .int .u8 st, .bool wd, V]] x (.bool (x.hearOk b ub)) (x.hearAns b ub) := by
  intro k w T h
  obtain ⟨hr, T0, v, rfl, hi⟩ := h
  have HR : Hid (Room (k + 2) (x.ans b ub)) := hr.same rfl rfl rfl rfl rfl rfl
  obtain ⟨W, hW, hB, hh⟩ := box_unit w #[.int .u8 b, .int .u8 f, .bool ub, .bool uf, .int .u8 kk, .int .u8 st, .bool wd, V]
  have hBD : Below w.heap.size w W.drew := hB.drew
  have hiD := hi.keep hBD
  have han := hiD.ans_ b f kk st ub uf wd V h0 h1
  have HF0 : Hid (Foot (setT P T0 v) (setT P T0 v) w W.drew) := Foot.of_below hBD
  have hS : W.drew.cell? ⟨P.b, 4, none⟩ = some (.iface (wT P.cy) (.pointer (some ⟨P.p, 0, none⟩))) ∧ (ldU (.pointer (some ⟨w.heap.size, 0, none⟩))).run Tryz.prog W.drew = .ok (.agg #[.int .u8 b, .int .u8 f, .bool ub, .bool uf, .int .u8 kk, .int .u8 st, .bool wd, V]) W.drew := ⟨hiD.all.1.2.2.2.2.1, (ld_unit (w := W.drew) hh rfl).1⟩
  have HBX : Hid (∀ T1 Y, Foot (setT P T0 v) (setT P T1 v) W.drew Y → StIn Y P T1 v (x.ans b ub) → Y.cell? ⟨P.b, 4, none⟩ = some (.iface (wT P.cy) (.pointer (some ⟨P.p, 0, none⟩))) ∧ (ldU (.pointer (some ⟨w.heap.size, 0, none⟩))).run Tryz.prog Y = .ok (.agg #[.int .u8 b, .int .u8 f, .bool ub, .bool uf, .int .u8 kk, .int .u8 st, .bool wd, V]) Y) := fun T1 Y hf hy => ⟨hy.all.1.2.2.2.2.1, (ld_unit ((hf.block _ (heap_lt hh) (fun e => by have := (hi.lt _ e).2; omega)).trans hh) rfl).1⟩
  have HE : Hid (x.hearAns b ub = if x.hearOk b ub = true then (x.ans2 b ub).jamAns (x.wt.an x.hs b ub).2.1 else (x.ans b ub).fail 4) := rfl
  have HA2 : Hid (x.ans2 b ub = if 0 < (x.wt.an x.hs b ub).2.1 ∧ x.s = 4 then (x.ans b ub).answered else x.ans b ub) := rfl
  have he := an_err x.wt x.hs b ub
  have HOK : Hid (x.hearOk b ub = ((x.wt.an x.hs b ub).2.2 != 10)) := rfl
  generalize (x.wt.an x.hs b ub).2.1 = g at *
  generalize (x.wt.an x.hs b ub).2.2 = ee at *
  clear hi hr hB hBD hiD hh
  rcases he with rfl | rfl
  · have hok : x.hearOk b ub = true := by rw [HOK.out]; rfl
    rw [hok]
    have HE2 : Hid (x.hearAns b ub = (x.ans2 b ub).jamAns g) := by show _ = _; rw [HE.out, if_pos hok]
    clear hok HE HOK
    by_cases hg : 0 < g
    · by_cases hs : x.s = 4
      · have HZ : Hid (x.hearAns b ub = if (x.ans b ub).answered.J.their = true then ((x.ans b ub).answered.setJ (x.ans b ub).answered.J.answer).tell 7 0 nilV else (x.ans b ub).answered.setJ (x.ans b ub).answered.J.answer) := by
          show _ = _
          rw [HE2.out, HA2.out, if_pos ⟨hg, hs⟩, St.jamAns, if_pos (.inl hg)]
        clear HE2 HA2
        go_enter Tryz.func85, Tryz.ntmps85
        go_upto_region 1 with fail
        rw [← hW]
        clear hW
        go_region_held (fun Y => Y.cell? ⟨P.b, 4, none⟩ = some (.iface (wT P.cy) (.pointer (some ⟨P.p, 0, none⟩))) ∧ (ldU (.pointer (some ⟨w.heap.size, 0, none⟩))).run Tryz.prog Y = .ok (.agg #[.int .u8 b, .int .u8 f, .bool ub, .bool uf, .int .u8 kk, .int .u8 st, .bool wd, V]) Y) (assumption)
          (first
          | (with_reducible change Calls Tryz.prog (fAns _) _ _ _; refine han.mono ?_; rintro e w2 ⟨rfl, T2, h2, hF2⟩; have hS2 := HBX.out T2 w2 hF2 h2))
        have HI2 : Hid (StIn w2 P T2 v (x.ans b ub)) := h2
        have HF2 : Hid (Foot (setT P T0 v) (setT P T2 v) w w2) := HF0.out.trans hF2
        have c0 : w2.cell? ⟨P.b, 0, none⟩ = some (.int .u8 x.s) := h2.all.1.1
        clear h2 hF2 hS2 han hS HBX
        rw [hs] at c0
        clear hs
        have han := answered_any P (x.ans b ub) (k + 2) w2 _ ⟨HR.out, T2, v, rfl, HI2.out⟩
        go_wp2_with fail
        refine han.mono ?_
        rintro e w3 ⟨rfl, T3', ⟨hr3, T3, v3, rfl, h3⟩, hF3⟩
        have HI3 : Hid (StIn w3 P T3 v3 (x.ans b ub).answered) := h3
        have HR3 : Hid (Room (k + 1) (x.ans b ub).answered) := hr3.mono (by omega)
        have HF3 : Hid (Foot (setT P T0 v) (setT P T3 v3) w w3) := HF2.out.trans hF3
        clear han h3 hr3 hF3 c0 HF2 HI2
        generalize (x.ans b ub).answered = z at *
        obtain ⟨⟨-, -, -, c3, -⟩, -⟩ := HI3.out.all
        have hja := answer_ja P.j P.c (z).J w3 HI3.out.ja
        rcases (by decide : ∀ b : Bool, b = true ∨ b = false) (z).J.their with ht | ht
        · have HX : Hid (x.hearAns b ub = ((z).setJ (z).J.answer).tell 7 0 nilV) := by show _ = _; rw [HZ.out, if_pos ht]
          rw [ht] at hja
          clear ht HZ
          go_wp2_with fail
          refine hja.mono ?_
          rintro e w4 ⟨rfl, hJ, hf⟩
          obtain ⟨h4, hF4⟩ := HI3.out.stJ hJ hf
          have hte := tell_any P ((z).setJ (z).J.answer) 7 0 none 0 0 k w4 _ ⟨HR3.out.same rfl rfl rfl rfl rfl rfl, _, _, rfl, h4⟩
          have HF4 := (show Hid _ from HF3.out.trans hF4)
          clear hja hJ hf h4 hF4 c3
          go_wp2_with fail
          refine hte.mono ?_
          rintro e w5 ⟨rfl, T5, h5, hF5⟩
          go_wp2
          go_ret
          exact ⟨rfl, _, by rw [HX.out]; exact h5, HF4.out.trans hF5⟩
        · have HX : Hid (x.hearAns b ub = (z).setJ (z).J.answer) := by show _ = _; rw [HZ.out, if_neg (by rw [ht]; decide)]
          rw [ht] at hja
          clear ht HZ
          go_wp2_with fail
          refine hja.mono ?_
          rintro e w4 ⟨rfl, hJ, hf⟩
          obtain ⟨h4, hF4⟩ := HI3.out.stJ hJ hf
          clear hja hJ hf c3
          go_wp2
          go_ret
          exact ⟨rfl, _, by rw [HX.out]; exact ⟨(HR3.out.mono (by omega)).same rfl rfl rfl rfl rfl rfl, _, _, rfl, h4⟩, HF3.out.trans hF4⟩
      · have HZ : Hid (x.hearAns b ub = if (x.ans b ub).J.their = true then ((x.ans b ub).setJ (x.ans b ub).J.answer).tell 7 0 nilV else (x.ans b ub).setJ (x.ans b ub).J.answer) := by
          show _ = _
          rw [HE2.out, HA2.out, if_neg (fun e => hs e.2), St.jamAns, if_pos (.inl hg)]
        have ks : (x.s == 4) = false := by rw [beq_eq_false_iff_ne]; exact hs
        clear HE2 HA2
        go_enter Tryz.func85, Tryz.ntmps85
        go_upto_region 1 with fail
        rw [← hW]
        clear hW
        go_region_held (fun Y => Y.cell? ⟨P.b, 4, none⟩ = some (.iface (wT P.cy) (.pointer (some ⟨P.p, 0, none⟩))) ∧ (ldU (.pointer (some ⟨w.heap.size, 0, none⟩))).run Tryz.prog Y = .ok (.agg #[.int .u8 b, .int .u8 f, .bool ub, .bool uf, .int .u8 kk, .int .u8 st, .bool wd, V]) Y) (assumption)
          (first
          | (with_reducible change Calls Tryz.prog (fAns _) _ _ _; refine han.mono ?_; rintro e w2 ⟨rfl, T2, h2, hF2⟩; have hS2 := HBX.out T2 w2 hF2 h2))
        have HI2 : Hid (StIn w2 P T2 v (x.ans b ub)) := h2
        have HF2 : Hid (Foot (setT P T0 v) (setT P T2 v) w w2) := HF0.out.trans hF2
        have c0 : w2.cell? ⟨P.b, 0, none⟩ = some (.int .u8 x.s) := h2.all.1.1
        clear h2 hF2 hS2 han hS HBX
        have HI3 : Hid (StIn w2 P T2 v (x.ans b ub)) := HI2.out
        have HR3 : Hid (Room (k + 1) (x.ans b ub)) := HR.out.mono (by omega)
        have HF3 : Hid (Foot (setT P T0 v) (setT P T2 v) w w2) := HF2.out
        clear HI2 HF2 HR hs
        generalize x.s = S at c0 ks
        generalize x.ans b ub = z at *
        obtain ⟨⟨-, -, -, c3, -⟩, -⟩ := HI3.out.all
        have hja := answer_ja P.j P.c (z).J w2 HI3.out.ja
        rcases (by decide : ∀ b : Bool, b = true ∨ b = false) (z).J.their with ht | ht
        · have HX : Hid (x.hearAns b ub = ((z).setJ (z).J.answer).tell 7 0 nilV) := by show _ = _; rw [HZ.out, if_pos ht]
          rw [ht] at hja
          clear ht HZ
          go_wp2_with fail
          refine hja.mono ?_
          rintro e w4 ⟨rfl, hJ, hf⟩
          obtain ⟨h4, hF4⟩ := HI3.out.stJ hJ hf
          have hte := tell_any P ((z).setJ (z).J.answer) 7 0 none 0 0 k w4 _ ⟨HR3.out.same rfl rfl rfl rfl rfl rfl, _, _, rfl, h4⟩
          have HF4 := (show Hid _ from HF3.out.trans hF4)
          clear hja hJ hf h4 hF4 c3
          go_wp2_with fail
          refine hte.mono ?_
          rintro e w5 ⟨rfl, T5, h5, hF5⟩
          go_wp2
          go_ret
          exact ⟨rfl, _, by rw [HX.out]; exact h5, HF4.out.trans hF5⟩
        · have HX : Hid (x.hearAns b ub = (z).setJ (z).J.answer) := by show _ = _; rw [HZ.out, if_neg (by rw [ht]; decide)]
          rw [ht] at hja
          clear ht HZ
          go_wp2_with fail
          refine hja.mono ?_
          rintro e w4 ⟨rfl, hJ, hf⟩
          obtain ⟨h4, hF4⟩ := HI3.out.stJ hJ hf
          clear hja hJ hf c3
          go_wp2
          go_ret
          exact ⟨rfl, _, by rw [HX.out]; exact ⟨(HR3.out.mono (by omega)).same rfl rfl rfl rfl rfl rfl, _, _, rfl, h4⟩, HF3.out.trans hF4⟩
    · have HZ0 : Hid (x.hearAns b ub = if (x.ans b ub).waits = false then (if (x.ans b ub).J.their = true then ((x.ans b ub).setJ (x.ans b ub).J.answer).tell 7 0 nilV else (x.ans b ub).setJ (x.ans b ub).J.answer) else x.ans b ub) := by
        show _ = _
        rw [HE2.out, HA2.out, if_neg (fun e => hg e.1), St.jamAns]
        congr 1
        simp [hg]
      clear HE2 HA2
      go_enter Tryz.func85, Tryz.ntmps85
      go_upto_region 1 with fail
      rw [← hW]
      clear hW
      go_region_held (fun Y => Y.cell? ⟨P.b, 4, none⟩ = some (.iface (wT P.cy) (.pointer (some ⟨P.p, 0, none⟩))) ∧ (ldU (.pointer (some ⟨w.heap.size, 0, none⟩))).run Tryz.prog Y = .ok (.agg #[.int .u8 b, .int .u8 f, .bool ub, .bool uf, .int .u8 kk, .int .u8 st, .bool wd, V]) Y) (assumption)
        (first
        | (with_reducible change Calls Tryz.prog (fAns _) _ _ _; refine han.mono ?_; rintro e w2 ⟨rfl, T2, h2, hF2⟩; have hS2 := HBX.out T2 w2 hF2 h2))
      have HI2 : Hid (StIn w2 P T2 v (x.ans b ub)) := h2
      have HF2 : Hid (Foot (setT P T0 v) (setT P T2 v) w w2) := HF0.out.trans hF2
      have c0 : w2.cell? ⟨P.b, 0, none⟩ = some (.int .u8 x.s) := h2.all.1.1
      clear h2 hF2 hS2 han hS HBX
      have hwa := waits_any P (x.ans b ub) _ _ w2 ⟨HR.out, T2, v, rfl, HI2.out⟩
      have HI3 : Hid (StIn w2 P T2 v (x.ans b ub)) := HI2.out
      have HR3 : Hid (Room (k + 1) (x.ans b ub)) := HR.out.mono (by omega)
      have HF3 : Hid (Foot (setT P T0 v) (setT P T2 v) w w2) := HF2.out
      clear HI2 HF2 HR
      generalize x.ans b ub = z at *
      rcases (by decide : ∀ b : Bool, b = true ∨ b = false) z.waits with hwz | hwz
      · have HX : Hid (x.hearAns b ub = z) := by show _ = _; rw [HZ0.out, if_neg (by rw [hwz]; decide)]
        rw [hwz] at hwa
        clear hwz HZ0
        go_wp2_with fail
        refine hwa.mono ?_
        rintro e w4 ⟨rfl, hw4⟩
        obtain rfl := hw4.symm
        clear hw4 hwa
        go_wp2
        go_ret
        exact ⟨rfl, _, by rw [HX.out]; exact ⟨HR3.out.mono (by omega), _, _, rfl, HI3.out⟩, HF3.out⟩
      · have HZ : Hid (x.hearAns b ub = if z.J.their = true then (z.setJ z.J.answer).tell 7 0 nilV else z.setJ z.J.answer) := by show _ = _; rw [HZ0.out, if_pos hwz]
        rw [hwz] at hwa
        clear hwz HZ0
        go_wp2_with fail
        refine hwa.mono ?_
        rintro e w4 ⟨rfl, hw4⟩
        obtain rfl := hw4.symm
        clear hw4 hwa
        obtain ⟨⟨-, -, -, c3, -⟩, -⟩ := HI3.out.all
        have hja := answer_ja P.j P.c (z).J w2 HI3.out.ja
        rcases (by decide : ∀ b : Bool, b = true ∨ b = false) (z).J.their with ht | ht
        · have HX : Hid (x.hearAns b ub = ((z).setJ (z).J.answer).tell 7 0 nilV) := by show _ = _; rw [HZ.out, if_pos ht]
          rw [ht] at hja
          clear ht HZ
          go_wp2_with fail
          refine hja.mono ?_
          rintro e w4 ⟨rfl, hJ, hf⟩
          obtain ⟨h4, hF4⟩ := HI3.out.stJ hJ hf
          have hte := tell_any P ((z).setJ (z).J.answer) 7 0 none 0 0 k w4 _ ⟨HR3.out.same rfl rfl rfl rfl rfl rfl, _, _, rfl, h4⟩
          have HF4 := (show Hid _ from HF3.out.trans hF4)
          clear hja hJ hf h4 hF4 c3
          go_wp2_with fail
          refine hte.mono ?_
          rintro e w5 ⟨rfl, T5, h5, hF5⟩
          go_wp2
          go_ret
          exact ⟨rfl, _, by rw [HX.out]; exact h5, HF4.out.trans hF5⟩
        · have HX : Hid (x.hearAns b ub = (z).setJ (z).J.answer) := by show _ = _; rw [HZ.out, if_neg (by rw [ht]; decide)]
          rw [ht] at hja
          clear ht HZ
          go_wp2_with fail
          refine hja.mono ?_
          rintro e w4 ⟨rfl, hJ, hf⟩
          obtain ⟨h4, hF4⟩ := HI3.out.stJ hJ hf
          clear hja hJ hf c3
          go_wp2
          go_ret
          exact ⟨rfl, _, by rw [HX.out]; exact ⟨(HR3.out.mono (by omega)).same rfl rfl rfl rfl rfl rfl, _, _, rfl, h4⟩, HF3.out.trans hF4⟩
  · have hok : x.hearOk b ub = false := by rw [HOK.out]; rfl
    rw [hok]
    have HX : Hid (x.hearAns b ub = (x.ans b ub).fail 4) := by show _ = _; rw [HE.out, if_neg (by rw [hok]; decide)]
    clear hok HE HOK HA2
    go_enter Tryz.func85, Tryz.ntmps85
    go_upto_region 1 with fail
    rw [← hW]
    clear hW
    go_region_held (fun Y => Y.cell? ⟨P.b, 4, none⟩ = some (.iface (wT P.cy) (.pointer (some ⟨P.p, 0, none⟩))) ∧ (ldU (.pointer (some ⟨w.heap.size, 0, none⟩))).run Tryz.prog Y = .ok (.agg #[.int .u8 b, .int .u8 f, .bool ub, .bool uf, .int .u8 kk, .int .u8 st, .bool wd, V]) Y) (assumption)
      (first
      | (with_reducible change Calls Tryz.prog (fAns _) _ _ _; refine han.mono ?_; rintro e w2 ⟨rfl, T2, h2, hF2⟩; have hS2 := HBX.out T2 w2 hF2 h2))
    have HI2 : Hid (StIn w2 P T2 v (x.ans b ub)) := h2
    have HF2 : Hid (Foot (setT P T0 v) (setT P T2 v) w w2) := HF0.out.trans hF2
    have c0 : w2.cell? ⟨P.b, 0, none⟩ = some (.int .u8 x.s) := h2.all.1.1
    clear h2 hF2 hS2 han hS HBX
    have hfa := fail_any P (x.ans b ub) 4 k w2 _ ⟨HR.out, T2, v, rfl, HI2.out⟩
    clear HI2 c0
    go_wp2_with fail
    refine hfa.mono ?_
    rintro e w3 ⟨rfl, T3, h3, hF3⟩
    go_wp2
    go_ret
    exact ⟨rfl, _, by rw [HX.out]; exact h3, HF2.out.trans hF3⟩
end Go.Proofs.YtldjglmelbkngaaGreat.Tape
