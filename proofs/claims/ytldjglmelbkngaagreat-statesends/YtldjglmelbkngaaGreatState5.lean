/- The contracts of a State's goOn, meet, theyIn, theyOut. -/
import Derived.Test.YtldjglmelbkngaaGreatState4
namespace Go.Proofs.YtldjglmelbkngaaGreat.Tape
open Go.ChangeShapes Go.WideShapes Go.ChangeAt Go.RowKit
set_option linter.unusedVariables false

theorem Room.at_s {k : Nat} {x : St} (h : Room k x) (n : Int) : Room k { x with s := n } := h.same rfl rfl rfl rfl rfl rfl
theorem Room.halt {k : Nat} {x : St} (h : Room k x) : Room k x.halt := h.same rfl rfl rfl rfl rfl rfl

set_option maxRecDepth 100000 in
set_option maxHeartbeats 1000000 in
theorem goOn_any (P : Pl) (x : St) : SC P 0 90 #[.pointer (some ⟨P.b, 0, none⟩)] x (.tuple #[]) x.goOn := by
  intro k w T h
  by_cases hs : x.s = 5
  · have hid : StAt w P k T x := h
    obtain ⟨hr, T0, v, rfl, hi⟩ := h
    obtain ⟨⟨c0, -, -, -, -, c5, c6, c7, -⟩, z⟩ := hi.all
    rw [hs] at c0
    have his := is_any x.own x.their x.held w
    rcases (by decide : ∀ b : Bool, b = true ∨ b = false) x.isOut with ho | ho
    · have e0 : x.goOn = x := if_pos (.inr ho)
      rw [show (x.own || (x.their || x.held)) = true from ho] at his
      have HI : Hid (StAt w P k (setT P T0 v) x) := hid
      rw [e0]
      clear hid hr hi z hs ho
      go_enter Tryz.func90, Tryz.ntmps90
      go_wp2_with (go_at_call 105; refine his.mono ?_; rintro e w1 ⟨rfl, hB1⟩)
      refine bodyPost_ret (v := .tuple #[]) (by simp [results, Tryz.results90, go_sem]) rfl ?_
      exact ⟨rfl, _, HI.out.keep hB1, Foot.of_below hB1⟩
    · have e0 : x.goOn = ({ x with s := 4 } : St).await := if_neg (by rintro (e | e); exact e hs; rw [ho] at e; cases e)
      rw [show (x.own || (x.their || x.held)) = false from ho] at his
      have HI : Hid (StIn w P T0 v x) := hi
      have HR : Hid (Room k { x with s := 4 }) := hr.at_s 4
      rw [e0]
      clear hid hr hi z hs ho
      go_enter Tryz.func90, Tryz.ntmps90
      go_wp2_with fail
      refine his.mono ?_
      rintro e w1 ⟨rfl, hB1⟩
      have h1 := HI.out.keep hB1
      have h2 := h1.put { x with s := 4 } 0 (.int .u8 4) rfl rfl rfl rfl rfl rfl
      have HF2 : Hid (Foot (setT P T0 v) (setT P T0 v) w (w1.setCell ⟨P.b, 0, none⟩ (.int .u8 4))) := (Foot.of_below hB1).trans (Foot.put _ _ _)
      have haw := await_any P _ k _ _ ⟨HR.out, T0, v, rfl, h2⟩
      have c0' := h1.all.1.1
      have z0 := h1.all.2 0
      have hlt := heap_lt h1.cells
      clear h1 h2 hB1 his c0 c5 c6 c7
      go_wp2_with fail
      refine haw.mono ?_
      rintro e w3 ⟨rfl, T3, h3, hF3⟩
      go_wp2
      refine bodyPost_end (results_none rfl _ _ _) rfl ?_
      exact ⟨rfl, _, h3, HF2.out.trans hF3⟩
  · have e0 : x.goOn = x := if_pos (.inl hs)
    have HD : Hid (StAt w P k T x) := h
    obtain ⟨hr, T0, v, rfl, hi⟩ := h
    obtain ⟨⟨c0, -⟩, -⟩ := hi.all
    have ks : (x.s != 5) = true := by rw [bne_iff_ne]; exact hs
    rw [e0]
    generalize hS : x.s = S at *
    clear hi hr hS
    go_enter Tryz.func90, Tryz.ntmps90
    go_wp2
    refine bodyPost_ret (v := .tuple #[]) (by simp [results, Tryz.results90, go_sem]) rfl ?_
    exact ⟨rfl, _, HD.out, Foot.refl _ _⟩

set_option maxRecDepth 100000 in
set_option maxHeartbeats 1000000 in
theorem meet_any (P : Pl) (x : St) : SC P 1 83 #[.pointer (some ⟨P.b, 0, none⟩)] x (.tuple #[]) x.meet := by
  intro k w T h
  by_cases hs : x.s ≠ 2 ∧ x.s ≠ 3
  · have e0 : x.meet = x := if_pos hs
    have HD : Hid (StAt w P k T x) := h.mono (by omega)
    obtain ⟨hr, T0, v, rfl, hi⟩ := h
    obtain ⟨⟨c0, -⟩, -⟩ := hi.all
    have k2 : (x.s != 2) = true := by rw [bne_iff_ne]; exact hs.1
    have k3 : (x.s != 3) = true := by rw [bne_iff_ne]; exact hs.2
    rw [e0]
    generalize hS : x.s = S at *
    clear hi hr hS
    go_enter Tryz.func83, Tryz.ntmps83
    go_wp2
    refine bodyPost_ret (v := .tuple #[]) (by simp [results, Tryz.results83, go_sem]) rfl ?_
    exact ⟨rfl, _, HD.out, Foot.refl _ _⟩
  · have hs' : x.s = 2 ∨ x.s = 3 := by omega
    have HE : Hid (x.meet = if x.isOut = true then x.met.halt else x.met) := if_neg hs
    obtain ⟨hr, T0, v, rfl, hi⟩ := h
    have HR : Hid (Room (k + 1) ({ x.stop 1 with s := 4 } : St)) := hr.same rfl rfl rfl rfl rfl rfl
    obtain ⟨⟨c0, c1, -⟩, -⟩ := hi.all
    have hst := hi.stop_ 1
    clear hs hi hr
    rcases hs' with hs | hs
    all_goals
      rw [hs] at c0
      clear hs
      go_enter Tryz.func83, Tryz.ntmps83
      go_wp2_with fail
      refine hst.mono ?_
      rintro e w1 ⟨rfl, h1, hF1⟩
      have h2 := h1.put { x.stop 1 with s := 4 } 0 (.int .u8 4) rfl rfl rfl rfl rfl rfl
      have HF2 : Hid (Foot (setT P T0 v) (setT P T0 v) w (w1.setCell ⟨P.b, 0, none⟩ (.int .u8 4))) := hF1.trans (Foot.put _ _ _)
      have hte := tell_any P _ 1 0 none 0 0 k _ _ ⟨HR.out, T0, v, rfl, h2⟩
      have c0' := h1.all.1.1
      have z0 := h1.all.2 0
      have hlt := heap_lt h1.cells
      clear h1 h2 hF1 hst c0 c1
      go_wp2_with fail
      refine hte.mono ?_
      rintro e w3 ⟨rfl, T3, ⟨hr3, T03, v3, rfl, h3⟩, hF3⟩
      have HI3 : Hid (StIn w3 P T03 v3 x.met) := h3
      have HF3 : Hid (Foot (setT P T0 v) (setT P T03 v3) w w3) := HF2.out.trans hF3
      have HR3 : Hid (Room k x.met) := hr3
      have c5 : w3.cell? ⟨P.b, 5, none⟩ = some (.bool x.own) := h3.all.1.2.2.2.2.2.1
      have c6 : w3.cell? ⟨P.b, 6, none⟩ = some (.bool x.their) := h3.all.1.2.2.2.2.2.2.1
      have c7 : w3.cell? ⟨P.b, 7, none⟩ = some (.bool x.held) := h3.all.1.2.2.2.2.2.2.2.1
      have his := is_any x.own x.their x.held w3
      clear hte h3 hF3 hr3 HF2 c0' z0 hlt
      rcases (by decide : ∀ b : Bool, b = true ∨ b = false) x.isOut with ho | ho
      · have HX : Hid (x.meet = x.met.halt) := by show _ = _; rw [HE.out, if_pos ho]
        rw [show (x.own || (x.their || x.held)) = true from ho] at his
        clear ho
        go_wp2_with fail
        refine his.mono ?_
        rintro e w4 ⟨rfl, hB4⟩
        have h4 := HI3.out.keep hB4
        have hha := halt_any P x.met k w4 _ ⟨HR3.out, T03, v3, rfl, h4⟩
        have HF4 : Hid (Foot (setT P T0 v) (setT P T03 v3) w w4) := HF3.out.trans (Foot.of_below hB4)
        clear h4 hB4 his c5 c6 c7
        go_wp2_with fail
        refine hha.mono ?_
        rintro e w5 ⟨rfl, T5, h5, hF5⟩
        go_wp2
        refine bodyPost_end (results_none rfl _ _ _) rfl ?_
        exact ⟨rfl, _, by rw [HX.out]; exact h5, HF4.out.trans hF5⟩
      · have HX : Hid (x.meet = x.met) := by show _ = _; rw [HE.out, if_neg (by rw [ho]; decide)]
        rw [show (x.own || (x.their || x.held)) = false from ho] at his
        clear ho
        go_wp2_with fail
        refine his.mono ?_
        rintro e w4 ⟨rfl, hB4⟩
        go_wp2
        refine bodyPost_end (results_none rfl _ _ _) rfl ?_
        exact ⟨rfl, _, by rw [HX.out]; exact ⟨HR3.out, T03, v3, rfl, HI3.out.keep hB4⟩, HF3.out.trans (Foot.of_below hB4)⟩

/-- The three cells of its Outage. -/
theorem StIn.putO {w : World} {P : Pl} {T0 : Nat → Prop} {v : Value} {x : St} (h : StIn w P T0 v x) (a b c : Bool) : StIn (((w.setCell ⟨P.b, 5, none⟩ (.bool a)).setCell ⟨P.b, 6, none⟩ (.bool b)).setCell ⟨P.b, 7, none⟩ (.bool c)) P T0 v { x with own := a, their := b, held := c } ∧ Foot (setT P T0 v) (setT P T0 v) w (((w.setCell ⟨P.b, 5, none⟩ (.bool a)).setCell ⟨P.b, 6, none⟩ (.bool b)).setCell ⟨P.b, 7, none⟩ (.bool c)) :=
  ⟨((h.put { x with own := a } 5 (.bool a) rfl rfl rfl rfl rfl rfl).put { x with own := a, their := b } 6 (.bool b) rfl rfl rfl rfl rfl rfl).put { x with own := a, their := b, held := c } 7 (.bool c) rfl rfl rfl rfl rfl rfl, ((Foot.put _ _ _).trans (Foot.put _ _ _)).trans (Foot.put _ _ _)⟩

set_option maxRecDepth 100000 in
set_option maxHeartbeats 1000000 in
theorem theyIn_any (P : Pl) (x : St) : SC P 1 84 #[.pointer (some ⟨P.b, 0, none⟩)] x (.tuple #[]) x.theyIn := by
  intro k w T h
  rcases (by decide : ∀ b : Bool, b = true ∨ b = false) x.their with ho | ho
  · have e0 : x.theyIn = ((x.their_ false).tell 5 0 nilV).goOn := if_pos ho
    rw [e0]
    obtain ⟨hr, T0, v, rfl, hi⟩ := h
    obtain ⟨⟨-, -, -, -, -, c5, c6, c7, -⟩, -⟩ := hi.all
    have hre := remote_any x.own x.their x.held false w
    rw [ho] at c6 hre
    have HI : Hid (StIn w P T0 v x) := hi
    have HR : Hid (Room (k + 1) (x.their_ false)) := hr.same rfl rfl rfl rfl rfl rfl
    clear hi hr e0 ho
    go_enter Tryz.func84, Tryz.ntmps84
    go_wp2_with fail
    refine hre.mono ?_
    rintro e w1 ⟨rfl, hB1⟩
    have h1 := HI.out.keep hB1
    obtain ⟨h2, hF2⟩ := h1.putO x.own false (x.held || false)
    have HF2 : Hid (Foot (setT P T0 v) (setT P T0 v) w (((w1.setCell ⟨P.b, 5, none⟩ (.bool x.own)).setCell ⟨P.b, 6, none⟩ (.bool false)).setCell ⟨P.b, 7, none⟩ (.bool (x.held || false)))) := (Foot.of_below hB1).trans hF2
    have hte := tell_any P (x.their_ false) 5 0 none 0 0 k _ _ ⟨HR.out, T0, v, rfl, h2⟩
    obtain ⟨⟨-, -, -, -, -, d5, d6, d7, -⟩, z⟩ := h1.all
    have z5 := z 5
    have z6 := z 6
    have z7 := z 7
    have hlt := heap_lt h1.cells
    generalize (x.held || false) = H at *
    clear h1 h2 hF2 hB1 hre z c5 c6 c7
    go_wp2_with fail
    refine hte.mono ?_
    rintro e w3 ⟨rfl, T3, h3, hF3⟩
    have hgo := goOn_any P _ k w3 T3 h3
    have HF3 : Hid (Foot (setT P T0 v) T3 w w3) := HF2.out.trans hF3
    clear h3 hF3 hte d5 d6 d7 z5 z6 z7 hlt HF2
    go_wp2_with fail
    refine hgo.mono ?_
    rintro e w4 ⟨rfl, T4, h4, hF4⟩
    go_wp2
    refine bodyPost_end (results_none rfl _ _ _) rfl ?_
    exact ⟨rfl, _, h4, HF3.out.trans hF4⟩
  · have e0 : x.theyIn = x := if_neg (by rw [ho]; decide)
    have HD : Hid (StAt w P k T x) := h.mono (by omega)
    rw [e0]
    obtain ⟨hr, T0, v, rfl, hi⟩ := h
    obtain ⟨⟨-, -, -, -, -, c5, c6, c7, -⟩, -⟩ := hi.all
    rw [ho] at c6
    clear hi hr e0 ho
    go_enter Tryz.func84, Tryz.ntmps84
    go_wp2
    refine bodyPost_ret (v := .tuple #[]) (by simp [results, Tryz.results84, go_sem]) rfl ?_
    exact ⟨rfl, _, HD.out, Foot.refl _ _⟩

set_option maxRecDepth 100000 in
set_option maxHeartbeats 2000000 in
theorem theyOut_any (P : Pl) (x : St) : SC P 2 81 #[.pointer (some ⟨P.b, 0, none⟩)] x (.tuple #[]) x.theyOut := by
  intro k w T h
  have hme := meet_any P x (k + 1) w T h
  rw [show x.theyOut = x.meet.theyOut2.halted from rfl]
  generalize x.meet = y at *
  rcases (by decide : ∀ b : Bool, b = true ∨ b = false) y.their with ho | ho
  · have HX : Hid (y.theyOut2 = y.their_ true) := if_pos ho
    go_enter Tryz.func81, Tryz.ntmps81
    go_wp2_with fail
    refine hme.mono ?_
    rintro e w1 ⟨rfl, T1, ⟨hr1, T01, v1, rfl, h1⟩, hF1⟩
    have HF1 : Hid (Foot T (setT P T01 v1) w w1) := hF1
    obtain ⟨⟨-, -, -, -, -, c5, c6, c7, -⟩, -⟩ := h1.all
    have hre := remote_any y.own y.their y.held true w1
    rw [ho] at hre c6
    have HR : Hid (Room (k + 1) (y.their_ true)) := hr1.same rfl rfl rfl rfl rfl rfl
    have HI : Hid (StIn w1 P T01 v1 y) := h1
    clear h1 hr1 hF1 hme h ho
    go_wp2_with fail
    refine hre.mono ?_
    rintro e w2 ⟨rfl, hB2⟩
    have h2 := HI.out.keep hB2
    obtain ⟨h3, hF3⟩ := h2.putO y.own true (y.held || true)
    have hal : Below (((w2.setCell ⟨P.b, 5, none⟩ (.bool y.own)).setCell ⟨P.b, 6, none⟩ (.bool true)).setCell ⟨P.b, 7, none⟩ (.bool (y.held || true))).heap.size (((w2.setCell ⟨P.b, 5, none⟩ (.bool y.own)).setCell ⟨P.b, 6, none⟩ (.bool true)).setCell ⟨P.b, 7, none⟩ (.bool (y.held || true))) ((((w2.setCell ⟨P.b, 5, none⟩ (.bool y.own)).setCell ⟨P.b, 6, none⟩ (.bool true)).setCell ⟨P.b, 7, none⟩ (.bool (y.held || true))).alloc (.cells #[.bool y.own, .bool true, .bool (y.held || true)] 41)) := (Below.refl _ _).alloc (Nat.le_refl _) _
    have h4 := h3.keep hal
    have HF4 : Hid (Foot T (setT P T01 v1) w ((((w2.setCell ⟨P.b, 5, none⟩ (.bool y.own)).setCell ⟨P.b, 6, none⟩ (.bool true)).setCell ⟨P.b, 7, none⟩ (.bool (y.held || true))).alloc (.cells #[.bool y.own, .bool true, .bool (y.held || true)] 41))) := ((HF1.out.trans (Foot.of_below hB2)).trans hF3).trans (Foot.of_below hal)
    obtain ⟨⟨d0, -, -, -, -, d5, d6, d7, -⟩, z⟩ := h2.all
    have z5 := z 5
    have z6 := z 6
    have z7 := z 7
    have hlt := heap_lt h2.cells
    have HS4 : Hid (StIn ((((w2.setCell ⟨P.b, 5, none⟩ (.bool y.own)).setCell ⟨P.b, 6, none⟩ (.bool true)).setCell ⟨P.b, 7, none⟩ (.bool (y.held || true))).alloc (.cells #[.bool y.own, .bool true, .bool (y.held || true)] 41)) P T01 v1 (y.their_ true)) := h4
    have e00 := h4.all.1.1
    clear h2 h3 h4 hF3 hal hB2 hre z c5 c6 c7 HI HF1
    change _ = some (Value.int .u8 y.s) at e00
    by_cases hs : y.s = 4
    · have HY : Hid ((y.their_ true).halted = (y.their_ true).halt) := if_pos hs
      rw [hs] at e00 d0
      have hha := halt_any P _ k _ _ ⟨HR.out.mono (by omega), T01, v1, rfl, HS4.out⟩
      generalize (y.held || true) = H at *
      clear hs
      go_wp2_with fail
      refine hha.mono ?_
      rintro e w5 ⟨rfl, T5, h5, hF5⟩
      go_wp2
      refine bodyPost_end (results_none rfl _ _ _) rfl ?_
      exact ⟨rfl, _, by rw [HX.out, HY.out]; exact h5, HF4.out.trans hF5⟩
    · have HY : Hid ((y.their_ true).halted = y.their_ true) := if_neg hs
      have ks : (y.s == 4) = false := by rw [beq_eq_false_iff_ne]; exact hs
      generalize (y.held || true) = H at *
      go_wp2_with fail
      refine bodyPost_end (results_none rfl _ _ _) rfl ?_
      exact ⟨rfl, _, by rw [HX.out, HY.out]; exact ⟨HR.out.mono (by omega), T01, v1, rfl, HS4.out⟩, HF4.out⟩
  · have HX : Hid (y.theyOut2 = (y.their_ true).tell 4 0 nilV) := if_neg (by rw [ho]; decide)
    go_enter Tryz.func81, Tryz.ntmps81
    go_wp2_with fail
    refine hme.mono ?_
    rintro e w1 ⟨rfl, T1, ⟨hr1, T01, v1, rfl, h1⟩, hF1⟩
    have HF1 : Hid (Foot T (setT P T01 v1) w w1) := hF1
    obtain ⟨⟨-, -, -, -, -, c5, c6, c7, -⟩, -⟩ := h1.all
    have hre := remote_any y.own y.their y.held true w1
    rw [ho] at hre c6
    have HR : Hid (Room (k + 1) (y.their_ true)) := hr1.same rfl rfl rfl rfl rfl rfl
    have HI : Hid (StIn w1 P T01 v1 y) := h1
    clear h1 hr1 hF1 hme h ho
    go_wp2_with fail
    refine hre.mono ?_
    rintro e w2 ⟨rfl, hB2⟩
    have h2 := HI.out.keep hB2
    obtain ⟨h3, hF3⟩ := h2.putO y.own true (y.held || true)
    have hal : Below (((w2.setCell ⟨P.b, 5, none⟩ (.bool y.own)).setCell ⟨P.b, 6, none⟩ (.bool true)).setCell ⟨P.b, 7, none⟩ (.bool (y.held || true))).heap.size (((w2.setCell ⟨P.b, 5, none⟩ (.bool y.own)).setCell ⟨P.b, 6, none⟩ (.bool true)).setCell ⟨P.b, 7, none⟩ (.bool (y.held || true))) ((((w2.setCell ⟨P.b, 5, none⟩ (.bool y.own)).setCell ⟨P.b, 6, none⟩ (.bool true)).setCell ⟨P.b, 7, none⟩ (.bool (y.held || true))).alloc (.cells #[.bool y.own, .bool true, .bool (y.held || true)] 41)) := (Below.refl _ _).alloc (Nat.le_refl _) _
    have h4 := h3.keep hal
    have HF4 : Hid (Foot T (setT P T01 v1) w ((((w2.setCell ⟨P.b, 5, none⟩ (.bool y.own)).setCell ⟨P.b, 6, none⟩ (.bool true)).setCell ⟨P.b, 7, none⟩ (.bool (y.held || true))).alloc (.cells #[.bool y.own, .bool true, .bool (y.held || true)] 41))) := ((HF1.out.trans (Foot.of_below hB2)).trans hF3).trans (Foot.of_below hal)
    obtain ⟨⟨d0, -, -, -, -, d5, d6, d7, -⟩, z⟩ := h2.all
    have z5 := z 5
    have z6 := z 6
    have z7 := z 7
    have hlt := heap_lt h2.cells
    have HS4 : Hid (StIn ((((w2.setCell ⟨P.b, 5, none⟩ (.bool y.own)).setCell ⟨P.b, 6, none⟩ (.bool true)).setCell ⟨P.b, 7, none⟩ (.bool (y.held || true))).alloc (.cells #[.bool y.own, .bool true, .bool (y.held || true)] 41)) P T01 v1 (y.their_ true)) := h4
    have e00 := h4.all.1.1
    clear h2 h3 h4 hF3 hal hB2 hre z c5 c6 c7 HI HF1
    clear e00 d0
    have hte := tell_any P (y.their_ true) 4 0 none 0 0 k _ _ ⟨HR.out, T01, v1, rfl, HS4.out⟩
    generalize (y.held || true) = H at *
    go_wp2_with fail
    refine hte.mono ?_
    rintro e w5 ⟨rfl, T5, h5, hF5⟩
    have HF5 : Hid (Foot T T5 w w5) := HF4.out.trans hF5
    have HS5 : Hid (StAt w5 P k T5 ((y.their_ true).tell 4 0 nilV)) := h5
    obtain ⟨hr5, T05, v5, rfl, h5⟩ := h5
    have e0 : w5.cell? ⟨P.b, 0, none⟩ = some (.int .u8 y.s) := h5.all.1.1
    clear hte hF5 hr5 h5 d5 d6 d7 z5 z6 z7 hlt HF4 HS4 HR
    by_cases hs : y.s = 4
    · have HY : Hid (((y.their_ true).tell 4 0 nilV).halted = ((y.their_ true).tell 4 0 nilV).halt) := if_pos hs
      rw [hs] at e0
      have hha := halt_any P _ k _ _ HS5.out
      clear hs
      go_wp2_with fail
      refine hha.mono ?_
      rintro e w6 ⟨rfl, T6, h6, hF6⟩
      go_wp2
      refine bodyPost_end (results_none rfl _ _ _) rfl ?_
      exact ⟨rfl, _, by rw [HX.out, HY.out]; exact h6, HF5.out.trans hF6⟩
    · have HY : Hid (((y.their_ true).tell 4 0 nilV).halted = (y.their_ true).tell 4 0 nilV) := if_neg hs
      have ks : (y.s == 4) = false := by rw [beq_eq_false_iff_ne]; exact hs
      go_wp2_with fail
      refine bodyPost_end (results_none rfl _ _ _) rfl ?_
      exact ⟨rfl, _, by rw [HX.out, HY.out]; exact HS5.out, HF5.out⟩
end Go.Proofs.YtldjglmelbkngaaGreat.Tape
