/- The contracts of a State's local, resume. -/
import Derived.Test.YtldjglmelbkngaaGreatState5
import Derived.Deep.MidRow
namespace Go.Proofs.YtldjglmelbkngaaGreat.Tape
open Go.ChangeShapes Go.WideShapes Go.ChangeAt Go.RowKit
set_option linter.unusedVariables false

/-- An Outage loaded whole, under a name of its own. -/
def ldOt (v : Value) : Sem Value := Instr.loadAt 41 v
theorem ldOt_def (v : Value) : Instr.loadAt 41 v = ldOt v := rfl
theorem ld_ot {w : World} {p : Nat} {a b c : Bool} (h : OutAt w p a b c) : (ldOt (.pointer (some ⟨p, 0, none⟩))).run Tryz.prog w = .ok (.agg #[.bool a, .bool b, .bool c]) w :=
  run_loadAt_mid w p 0 41 [.bool a, .bool b, .bool c] _ (World.rangeAt_of_block h 0 3) Tryz.underlying41 rfl (by kernel_rfl)
theorem StIn.ldo {w : World} {P : Pl} {T0 : Nat → Prop} {v : Value} {x : St} (h : StIn w P T0 v x) : (ldOt (.pointer (some ⟨P.b, 5, none⟩))).run Tryz.prog w = .ok (.agg #[.bool x.own, .bool x.their, .bool x.held]) w :=
  run_loadAt_mid w P.b 5 41 [.bool x.own, .bool x.their, .bool x.held] _ (World.rangeAt_of_block h.cells 5 3) Tryz.underlying41 rfl (by kernel_rfl)
theorem eq_out (o a b c : Bool) (w : World) : (Op.equalIn 10000 41 (.agg #[.bool o, .bool b, .bool c]) (.agg #[.bool a, .bool b, .bool c])).run Tryz.prog w = .ok (o == a) w := by
  cases o <;> cases a <;> cases b <;> cases c <;> (show _ = _; kernel_rfl)

attribute [local go_sem ↓] ldOt_def

set_option maxRecDepth 100000 in
set_option maxHeartbeats 2000000 in
theorem local_st (P : Pl) (x : St) (o : Bool) : SC P 0 54 #[.pointer (some ⟨P.b, 0, none⟩), .bool o] x (.tuple #[]) (x.local_ o) := by
  intro k w T h
  obtain ⟨hr, T0, v, rfl, hi⟩ := h
  have HR : Hid (Room k x) := hr
  have hld := hi.ldo
  have hBq : Below w.heap.size w (w.alloc (.cells #[.bool x.own, .bool x.their, .bool x.held] 41)) := (Below.refl _ _).alloc (Nat.le_refl _) _
  have hq := OutAt.new w x.own x.their x.held
  have hlq := ld_ot hq
  have hlo := local_any x.own x.their x.held o (w.alloc (.cells #[.bool x.own, .bool x.their, .bool x.held] 41))
  have HQ : Hid (OutAt (w.alloc (.cells #[.bool x.own, .bool x.their, .bool x.held] 41)) w.heap.size x.own x.their x.held) := hq
  have HI : Hid (StIn (w.alloc (.cells #[.bool x.own, .bool x.their, .bool x.held] 41)) P T0 v x) := hi.keep hBq
  have HB : Hid (Below w.heap.size w (w.alloc (.cells #[.bool x.own, .bool x.their, .bool x.held] 41))) := hBq
  have HNE : Hid (P.b < w.heap.size) := heap_lt hi.cells
  clear hr hi hBq hq
  go_enter Tryz.func54, Tryz.ntmps54
  go_wp2_with fail
  refine hlo.mono ?_
  rintro e w1 ⟨rfl, hB1⟩
  have h1 := HI.out.keep hB1
  have hq1 := HQ.out.keep hB1 HQ.out.lt
  obtain ⟨h2, hF2⟩ := h1.putO o x.their x.held
  have hne : P.b ≠ w.heap.size := by have := HNE.out; omega
  have hq2 : OutAt ((((w1.setCell ⟨P.b, 5, none⟩ (.bool o)).setCell ⟨P.b, 6, none⟩ (.bool x.their)).setCell ⟨P.b, 7, none⟩ (.bool x.held))) w.heap.size x.own x.their x.held :=
    ((Below.heap_setCell _ _ _ _ (Ne.symm hne)).trans ((Below.heap_setCell _ _ _ _ (Ne.symm hne)).trans (Below.heap_setCell _ _ _ _ (Ne.symm hne)))).trans hq1
  obtain ⟨⟨-, -, -, -, -, d5, d6, d7, -⟩, z⟩ := h1.all
  have z5 := z 5
  have z6 := z 6
  have z7 := z 7
  have hlt := heap_lt h1.cells
  have HF2 : Hid (Foot (setT P T0 v) (setT P T0 v) w ((((w1.setCell ⟨P.b, 5, none⟩ (.bool o)).setCell ⟨P.b, 6, none⟩ (.bool x.their)).setCell ⟨P.b, 7, none⟩ (.bool x.held)).drew)) := ((Foot.of_below (HB.out.trans (below_le hB1 HB.out.size))).trans hF2).trans (Foot.of_below (Below.refl _ _).drew)
  have h3 := h2.keep ((Below.refl _ _).drew)
  have hS : (ldOt (.pointer (some ⟨P.b, 5, none⟩))).run Tryz.prog ((((w1.setCell ⟨P.b, 5, none⟩ (.bool o)).setCell ⟨P.b, 6, none⟩ (.bool x.their)).setCell ⟨P.b, 7, none⟩ (.bool x.held)).drew) = .ok (.agg #[.bool o, .bool x.their, .bool x.held]) ((((w1.setCell ⟨P.b, 5, none⟩ (.bool o)).setCell ⟨P.b, 6, none⟩ (.bool x.their)).setCell ⟨P.b, 7, none⟩ (.bool x.held)).drew) ∧ (ldOt (.pointer (some ⟨w.heap.size, 0, none⟩))).run Tryz.prog ((((w1.setCell ⟨P.b, 5, none⟩ (.bool o)).setCell ⟨P.b, 6, none⟩ (.bool x.their)).setCell ⟨P.b, 7, none⟩ (.bool x.held)).drew) = .ok (.agg #[.bool x.own, .bool x.their, .bool x.held]) ((((w1.setCell ⟨P.b, 5, none⟩ (.bool o)).setCell ⟨P.b, 6, none⟩ (.bool x.their)).setCell ⟨P.b, 7, none⟩ (.bool x.held)).drew) := ⟨h3.ldo, ld_ot (hq2.keep (B := _) ((Below.refl _ _).drew) hq2.lt)⟩
  obtain ⟨bb, hbb⟩ : ∃ bb, bb = (o == x.own) := ⟨_, rfl⟩
  have HBB : Hid (bb = (o == x.own)) := hbb
  have heq := eq_out o x.own x.their x.held
  rw [← hbb] at heq
  have HS3 : Hid (StIn ((((w1.setCell ⟨P.b, 5, none⟩ (.bool o)).setCell ⟨P.b, 6, none⟩ (.bool x.their)).setCell ⟨P.b, 7, none⟩ (.bool x.held)).drew) P T0 v { x with own := o }) := h3
  clear hbb hlo hld hlq h1 h2 h3 hq1 hq2 hF2 z hB1 HI HQ HB hne
  go_upto_region 2 with fail
  clear d5 d6 d7 z5 z6 z7 hlt
  generalize (((w1.setCell ⟨P.b, 5, none⟩ (.bool o)).setCell ⟨P.b, 6, none⟩ (.bool x.their)).setCell ⟨P.b, 7, none⟩ (.bool x.held)) = w2 at *
  go_region_held (fun Y => (ldOt (.pointer (some ⟨P.b, 5, none⟩))).run Tryz.prog Y = .ok (.agg #[.bool o, .bool x.their, .bool x.held]) Y ∧ (ldOt (.pointer (some ⟨w.heap.size, 0, none⟩))).run Tryz.prog Y = .ok (.agg #[.bool x.own, .bool x.their, .bool x.held]) Y) (assumption) (fail)
  clear hS heq
  by_cases ho : x.own = o
  · have hb : bb = true := by rw [HBB.out, ho]; simp
    subst hb
    have HX : Hid (x.local_ o = { x with own := o }) := by
      show _ = _
      rw [show x.local_ o = x from if_pos ho]
      subst ho
      rfl
    clear ho
    go_wp2
    refine bodyPost_ret (v := .tuple #[]) (by simp [results, Tryz.results54, go_sem]) rfl ?_
    exact ⟨rfl, _, by rw [HX.out]; exact ⟨HR.out.same rfl rfl rfl rfl rfl rfl, T0, v, rfl, HS3.out⟩, HF2.out⟩
  · have hb : bb = false := by rw [HBB.out, beq_eq_false_iff_ne]; exact fun e => ho e.symm
    subst hb
    have HX : Hid (x.local_ o = if x.s = 4 then ({ x with own := o } : St).halt else if x.s = 5 then ({ x with own := o } : St).goOn else if x.s = 2 then { x with own := o, s := 3 } else if x.s = 3 then { x with own := o, s := 2 } else { x with own := o }) := if_neg ho
    have HR2 : Hid (Room k { x with own := o }) := HR.out.same rfl rfl rfl rfl rfl rfl
    have d0 : w2.cell? ⟨P.b, 0, none⟩ = some (.int .u8 x.s) := HS3.out.all.1.1
    have z0 : w2.frozen? ⟨P.b, 0, none⟩ = false := HS3.out.all.2 0
    have hlt : P.b < w2.heap.size := heap_lt HS3.out.cells
    clear ho HR
    by_cases h4 : x.s = 4
    · have HY : Hid (x.local_ o = ({ x with own := o } : St).halt) := by show _ = _; rw [HX.out, if_pos h4]
      have hc := halt_any P _ k _ _ ⟨HR2.out, T0, v, rfl, HS3.out⟩
      rw [h4] at d0
      clear h4 HX
      go_wp2_with fail
      refine hc.mono ?_
      rintro e w5 ⟨rfl, T5, h5, hF5⟩
      go_wp2
      refine bodyPost_end (results_none rfl _ _ _) rfl ?_
      exact ⟨rfl, _, by rw [HY.out]; exact h5, HF2.out.trans hF5⟩
    · by_cases h5 : x.s = 5
      · have HY : Hid (x.local_ o = ({ x with own := o } : St).goOn) := by show _ = _; rw [HX.out, if_neg h4, if_pos h5]
        have hc := goOn_any P _ k _ _ ⟨HR2.out, T0, v, rfl, HS3.out⟩
        rw [h5] at d0
        clear h4 h5 HX
        go_wp2_with fail
        refine hc.mono ?_
        rintro e w5 ⟨rfl, T5, h5, hF5⟩
        go_wp2
        refine bodyPost_end (results_none rfl _ _ _) rfl ?_
        exact ⟨rfl, _, by rw [HY.out]; exact h5, HF2.out.trans hF5⟩
      · by_cases h2 : x.s = 2
        · have HY : Hid (x.local_ o = { x with own := o, s := 3 }) := by show _ = _; rw [HX.out, if_neg h4, if_neg h5, if_pos h2]
          have hp := HS3.out.put { x with own := o, s := 3 } 0 (.int .u8 3) rfl rfl rfl rfl rfl rfl
          have HP := (show Hid _ from hp)
          rw [h2] at d0
          clear h4 h5 h2 HX hp
          go_wp2
          refine bodyPost_end (results_none rfl _ _ _) rfl ?_
          exact ⟨rfl, _, by rw [HY.out]; exact ⟨HR2.out.same rfl rfl rfl rfl rfl rfl, T0, v, rfl, HP.out⟩, HF2.out.trans (Foot.put _ _ _)⟩
        · by_cases h3 : x.s = 3
          · have HY : Hid (x.local_ o = { x with own := o, s := 2 }) := by show _ = _; rw [HX.out, if_neg h4, if_neg h5, if_neg h2, if_pos h3]
            have hp := HS3.out.put { x with own := o, s := 2 } 0 (.int .u8 2) rfl rfl rfl rfl rfl rfl
            have HP := (show Hid _ from hp)
            rw [h3] at d0
            clear h4 h5 h2 h3 HX hp
            go_wp2
            refine bodyPost_end (results_none rfl _ _ _) rfl ?_
            exact ⟨rfl, _, by rw [HY.out]; exact ⟨HR2.out.same rfl rfl rfl rfl rfl rfl, T0, v, rfl, HP.out⟩, HF2.out.trans (Foot.put _ _ _)⟩
          · have HY : Hid (x.local_ o = { x with own := o }) := by show _ = _; rw [HX.out, if_neg h4, if_neg h5, if_neg h2, if_neg h3]
            have k4 : (x.s == 4) = false := by rw [beq_eq_false_iff_ne]; exact h4
            have k5 : (x.s == 5) = false := by rw [beq_eq_false_iff_ne]; exact h5
            have k2 : (x.s == 2) = false := by rw [beq_eq_false_iff_ne]; exact h2
            have k3 : (x.s == 3) = false := by rw [beq_eq_false_iff_ne]; exact h3
            clear HX
            go_wp2
            refine bodyPost_end (results_none rfl _ _ _) rfl ?_
            exact ⟨rfl, _, by rw [HY.out]; exact ⟨HR2.out, T0, v, rfl, HS3.out⟩, HF2.out⟩

set_option maxRecDepth 100000 in
set_option maxHeartbeats 2000000 in
theorem resume_any (P : Pl) (x : St) : SC P 0 56 #[.pointer (some ⟨P.b, 0, none⟩)] x (.int .i64 x.resumeE) x.resume := by
  intro k w T h
  obtain ⟨hr, T0, v, rfl, hi⟩ := h
  have hco := cont_any x.own x.their x.held w
  have hld := hi.ldo
  have HI : Hid (StIn w P T0 v x) := hi
  have HR : Hid (Room k x) := hr
  clear hi hr
  rcases (by decide : ∀ b : Bool, b = true ∨ b = false) (goes x.own x.their) with ho | ho
  · rw [show x.resumeE = 0 from if_pos ho, show x.resume = ({ x with held := false } : St).goOn from if_pos ho]
    rw [ho, show (x.held && !true) = false by simp] at hco
    clear ho
    go_enter Tryz.func56, Tryz.ntmps56
    go_wp2_with fail
    refine hco.mono ?_
    rintro e w1 ⟨rfl, hB1⟩
    have h1 := HI.out.keep hB1
    have hal : Below w1.heap.size w1 (w1.alloc (.cells #[.bool x.own, .bool x.their, .bool false] 41)) := (Below.refl _ _).alloc (Nat.le_refl _) _
    have hlq := ld_ot (OutAt.new w1 x.own x.their false)
    have h1' := h1.keep hal
    obtain ⟨h2, hF2⟩ := h1'.putO x.own x.their false
    have HF2 : Hid (Foot (setT P T0 v) (setT P T0 v) w ((((w1.alloc (.cells #[.bool x.own, .bool x.their, .bool false] 41)).setCell ⟨P.b, 5, none⟩ (.bool x.own)).setCell ⟨P.b, 6, none⟩ (.bool x.their)).setCell ⟨P.b, 7, none⟩ (.bool false))) := ((Foot.of_below hB1).trans (Foot.of_below hal)).trans hF2
    have hgo := goOn_any P { x with held := false } k _ _ ⟨HR.out.same rfl rfl rfl rfl rfl rfl, T0, v, rfl, h2⟩
    obtain ⟨⟨-, -, -, -, -, d5, d6, d7, -⟩, z⟩ := h1'.all
    have z5 := z 5
    have z6 := z 6
    have z7 := z 7
    have hlt := heap_lt h1'.cells
    clear h1 h1' h2 hF2 hal hB1 hco z hld
    go_wp2_with fail
    refine hgo.mono ?_
    rintro e w3 ⟨rfl, T3, h3, hF3⟩
    go_wp2
    go_ret
    exact ⟨rfl, _, h3, HF2.out.trans hF3⟩
  · rw [show x.resumeE = 9 from if_neg (by rw [ho]; decide), show x.resume = x from if_neg (by rw [ho]; decide)]
    rw [ho, show (x.held && !false) = x.held by simp] at hco
    clear ho
    go_enter Tryz.func56, Tryz.ntmps56
    go_wp2_with fail
    refine hco.mono ?_
    rintro e w1 ⟨rfl, hB1⟩
    have hal : Below w1.heap.size w1 (w1.alloc (.cells #[.bool x.own, .bool x.their, .bool x.held] 41)) := (Below.refl _ _).alloc (Nat.le_refl _) _
    clear hco hld
    go_wp2
    go_ret
    exact ⟨rfl, _, ⟨HR.out, T0, v, rfl, (HI.out.keep hB1).keep hal⟩, (Foot.of_below hB1).trans (Foot.of_below hal)⟩
end Go.Proofs.YtldjglmelbkngaaGreat.Tape
