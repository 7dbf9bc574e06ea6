/- The contracts of a State's begin, stop, put, local, resume, busy. -/
import Derived.Test.YtldjglmelbkngaaGreatState5
namespace Go.Proofs.YtldjglmelbkngaaGreat.Tape
open Go.ChangeShapes Go.WideShapes Go.ChangeAt Go.RowKit
set_option linter.unusedVariables false

attribute [local go_sem] m_hold c_hold m_reset c_reset

theorem StIn.reset_ {w : World} {P : Pl} {T0 : Nat → Prop} {v : Value} {x : St} (h : StIn w P T0 v x) : Calls Tryz.prog (fReset P.cy) #[.pointer (some ⟨P.p, 0, none⟩)] w fun e w' => e = .returned (.tuple #[]) ∧ ∃ T1, StIn w' P T1 v (x.setW x.wt.rs ⟨x.hs.most, x.hs.oct, 0, [], []⟩) ∧ Foot (setT P T0 v) (setT P T1 v) w w' := by
  have hw := wreset_any P.p P.hb P.B T0 x.wt x.hs w h.way
  rw [h.cyc] at hw
  refine hw.mono ?_
  rintro e w' ⟨rfl, T1, hW, hf⟩
  obtain ⟨h1, h2⟩ := h.stW hW (cyc_rs _) hf
  exact ⟨rfl, T1, h1, h2⟩

set_option maxRecDepth 100000 in
set_option maxHeartbeats 1000000 in
theorem begin_any (P : Pl) (x : St) : SC P 0 50 #[.pointer (some ⟨P.b, 0, none⟩)] x (.int .i64 x.beginE) x.begin_ := by
  intro k w T h
  by_cases hs : x.s = 0
  · rw [show x.begin_ = x.beg.setA x.A.begin_ from if_pos hs, show x.beginE = 0 from if_pos hs]
    obtain ⟨hr, T0, v, rfl, hi⟩ := h
    have HR : Hid (Room k x) := hr
    obtain ⟨⟨c0, -, -, -, c4, -⟩, -⟩ := hi.all
    rw [hs] at c0
    have hre := hi.reset_
    clear hi hr hs
    go_enter Tryz.func50, Tryz.ntmps50
    go_wp2_with fail
    refine hre.mono ?_
    rintro e w1 ⟨rfl, T1, h1, hF1⟩
    have h2 := h1.put { x.setW x.wt.rs ⟨x.hs.most, x.hs.oct, 0, [], []⟩ with s := 1 } 0 (.int .u8 1) rfl rfl rfl rfl rfl rfl
    have HF2 : Hid (Foot (setT P T0 v) (setT P T1 v) w (w1.setCell ⟨P.b, 0, none⟩ (.int .u8 1))) := hF1.trans (Foot.put _ _ _)
    have hfo := forget_any P _ k _ _ ⟨HR.out.same (y := { x.setW x.wt.rs ⟨x.hs.most, x.hs.oct, 0, [], []⟩ with s := 1 }) rfl rfl rfl rfl rfl rfl, T1, v, rfl, h2⟩
    have d0 := h1.all.1.1
    have z0 := h1.all.2 0
    have hlt := heap_lt h1.cells
    clear h1 h2 hF1 hre c0 c4
    go_wp2_with fail
    refine hfo.mono ?_
    rintro e w3 ⟨rfl, T3, ⟨hr3, T03, v3, rfl, h3⟩, hF3⟩
    have HI3 : Hid (StIn w3 P T03 v3 x.beg) := h3
    have HF3 : Hid (Foot (setT P T0 v) (setT P T03 v3) w w3) := HF2.out.trans hF3
    have hbe := begin_al P.a P.c x.A w3 h3.al
    have HR3 : Hid (Room k (x.beg.setA x.A.begin_)) := Room.setA hr3 hr3.ra.begin_
    obtain ⟨⟨-, -, c2, -⟩, -⟩ := h3.all
    clear h3 hF3 hfo d0 z0 hlt HF2 hr3
    go_wp2_with fail
    refine hbe.mono ?_
    rintro e w4 ⟨rfl, hA, hf⟩
    obtain ⟨h4, hF4⟩ := HI3.out.stA hA hf rfl
    clear hbe hA hf c2
    go_wp2
    go_ret
    exact ⟨rfl, _, ⟨HR3.out, T03, v3, rfl, h4⟩, HF3.out.trans hF4⟩
  · rw [show x.begin_ = x from if_neg hs, show x.beginE = 9 from if_neg hs]
    have HD : Hid (StAt w P k T x) := h
    obtain ⟨hr, T0, v, rfl, hi⟩ := h
    obtain ⟨⟨c0, -⟩, -⟩ := hi.all
    have ks : (x.s != 0) = true := by rw [bne_iff_ne]; exact hs
    generalize hS : x.s = S at *
    clear hi hr hS
    go_enter Tryz.func50, Tryz.ntmps50
    go_wp2
    go_ret
    exact ⟨rfl, _, HD.out, Foot.refl _ _⟩

set_option maxRecDepth 100000 in
set_option maxHeartbeats 1000000 in
theorem stop_st (P : Pl) (x : St) : SC P 2 51 #[.pointer (some ⟨P.b, 0, none⟩)] x (.int .i64 x.stopE) x.stopO := by
  intro k w T h
  have hfa := fail_any P x 10 k w T h
  have HD : Hid (StAt w P k T x) := h.mono (by omega)
  obtain ⟨hr, T0, v, rfl, hi⟩ := h
  obtain ⟨⟨c0, -⟩, -⟩ := hi.all
  unfold St.stopO
  by_cases hs : x.s = 0
  · rw [show x.fail 10 = x from if_pos hs, show x.stopE = 9 from if_pos hs]
    rw [hs] at c0
    clear hi hr hs hfa
    go_enter Tryz.func51, Tryz.ntmps51
    go_wp2
    go_ret
    exact ⟨rfl, _, HD.out, Foot.refl _ _⟩
  · rw [show x.stopE = 0 from if_neg hs]
    have ks : (x.s == 0) = false := by rw [beq_eq_false_iff_ne]; exact hs
    generalize hS : x.s = S at *
    clear hi hr hS
    go_enter Tryz.func51, Tryz.ntmps51
    go_wp2_with (go_at_call 34; refine hfa.mono ?_; rintro e w2 ⟨rfl, T2, h2, hF2⟩)
    go_ret
    exact ⟨rfl, _, h2, hF2⟩

/-- What Send answers, and leaves. -/
def St.putE (x : St) (xs : List Int) : Int := if x.inUse = true then x.hs.putE xs else 12
def St.put_ (x : St) (xs : List Int) : St := if x.inUse = true then x.setW x.wt (x.hs.put xs) else x

set_option maxRecDepth 100000 in
set_option maxHeartbeats 1000000 in
theorem put_st (P : Pl) (x : St) (ao : Option Addr) (n cap : Nat) (xs : List Int) (k : Nat) (w : World) (T : Nat → Prop) (h : StAt w P k T x) (hn : xs.length = n) (hl : n ≤ 1000000) (hr : Reads w ao (xs.map (.int .u8))) (hx : ∀ y ∈ xs, 0 ≤ y ∧ y ≤ 255) :
    Calls Tryz.prog 53 #[.pointer (some ⟨P.b, 0, none⟩), .slice ao n cap] w fun e w' => e = .returned (.int .i64 (x.putE xs)) ∧ ∃ T', StAt w' P k T' (x.put_ xs) ∧ Foot T T' w w' := by
  have hin := inUse_any P x k T w h
  rcases (by decide : ∀ b : Bool, b = true ∨ b = false) x.inUse with ho | ho
  · rw [show x.putE xs = x.hs.putE xs from if_pos ho, show x.put_ xs = x.setW x.wt (x.hs.put xs) from if_pos ho]
    rw [ho] at hin
    obtain ⟨hrm, T0, v, rfl, hi⟩ := h
    obtain ⟨⟨-, -, -, -, c4, -⟩, -⟩ := hi.all
    have hho := hi.hold_
    have hpu := put_any P.hb P.B T0 x.hs ao n cap xs w hi.way.hold hn hl hr hx (by have := heap_lt hi.cells; have := hi.low.1; omega)
    have HI : Hid (StIn w P T0 v x) := hi
    have HR : Hid (Room k x) := hrm
    clear hi hrm ho hr hx hn hl
    go_enter Tryz.func53, Tryz.ntmps53
    go_wp2_with (go_at_call 80; refine hin.mono ?_; rintro e w1 ⟨rfl, hw1⟩; obtain rfl := hw1.symm; clear hw1)
    refine hho.mono ?_
    rintro e w1 ⟨rfl, hw1⟩
    obtain rfl := hw1.symm
    clear hho hw1 hin
    go_wp2_with fail
    refine hpu.mono ?_
    rintro e w2 ⟨rfl, T1, hat, hf⟩
    obtain ⟨hw2, hF2⟩ := HI.out.way.step hat hf
    obtain ⟨h2, hF3⟩ := HI.out.stW hw2 rfl hF2
    clear hpu hat hf hw2 hF2 c4
    go_wp2
    go_ret
    exact ⟨rfl, _, ⟨HR.out.same rfl rfl rfl rfl rfl rfl, T1, v, rfl, h2⟩, hF3⟩
  · rw [show x.putE xs = 12 from if_neg (by rw [ho]; decide), show x.put_ xs = x from if_neg (by rw [ho]; decide)]
    rw [ho] at hin
    have HD : Hid (StAt w P k T x) := h
    clear h ho hr hx hn hl
    go_enter Tryz.func53, Tryz.ntmps53
    go_wp2_with (go_at_call 80; refine hin.mono ?_; rintro e w1 ⟨rfl, hw1⟩; obtain rfl := hw1.symm; clear hw1)
    go_ret
    exact ⟨rfl, _, HD.out, Foot.refl _ _⟩

set_option maxRecDepth 100000 in
set_option maxHeartbeats 1000000 in
theorem busy_any (P : Pl) (x : St) (on : Bool) : SC P 0 57 #[.pointer (some ⟨P.b, 0, none⟩), .bool on] x (.int .i64 x.busyE) (x.busy on) := by
  intro k w T h
  have hin := inUse_any P x k T w h
  rcases (by decide : ∀ b : Bool, b = true ∨ b = false) x.inUse with ho | ho
  · rw [show x.busyE = 0 from if_pos ho, show x.busy on = if on = true then x.setJ x.J.begin_ else x.setJ x.J.end_ from if_pos ho]
    rw [ho] at hin
    obtain ⟨hrm, T0, v, rfl, hi⟩ := h
    obtain ⟨⟨-, -, -, c3, -⟩, -⟩ := hi.all
    have hbe := begin_ja P.j P.c x.J w hi.ja
    have hen := end_ja P.j P.c x.J w hi.ja
    have HI : Hid (StIn w P T0 v x) := hi
    have HR : Hid (Room k x) := hrm
    clear hi hrm ho
    cases on
    · clear hbe
      go_enter Tryz.func57, Tryz.ntmps57
      go_wp2_with (go_at_call 80; refine hin.mono ?_; rintro e w1 ⟨rfl, hw1⟩; obtain rfl := hw1.symm; clear hw1)
      refine hen.mono ?_
      rintro e w2 ⟨rfl, hJ, hf⟩
      obtain ⟨h2, hF2⟩ := HI.out.stJ hJ hf
      clear hen hin hJ hf c3
      go_wp2
      go_ret
      exact ⟨rfl, _, ⟨HR.out.same rfl rfl rfl rfl rfl rfl, T0, v, rfl, h2⟩, hF2⟩
    · clear hen
      go_enter Tryz.func57, Tryz.ntmps57
      go_wp2_with (go_at_call 80; refine hin.mono ?_; rintro e w1 ⟨rfl, hw1⟩; obtain rfl := hw1.symm; clear hw1)
      refine hbe.mono ?_
      rintro e w2 ⟨rfl, hJ, hf⟩
      obtain ⟨h2, hF2⟩ := HI.out.stJ hJ hf
      clear hbe hin hJ hf c3
      go_wp2
      go_ret
      exact ⟨rfl, _, ⟨HR.out.same rfl rfl rfl rfl rfl rfl, T0, v, rfl, h2⟩, hF2⟩
  · rw [show x.busyE = 9 from if_neg (by rw [ho]; decide), show x.busy on = x from if_neg (by rw [ho]; decide)]
    rw [ho] at hin
    have HD : Hid (StAt w P k T x) := h
    clear h ho
    go_enter Tryz.func57, Tryz.ntmps57
    go_wp2_with (go_at_call 80; refine hin.mono ?_; rintro e w1 ⟨rfl, hw1⟩; obtain rfl := hw1.symm; clear hw1)
    go_ret
    exact ⟨rfl, _, HD.out, Foot.refl _ _⟩
end Go.Proofs.YtldjglmelbkngaaGreat.Tape
