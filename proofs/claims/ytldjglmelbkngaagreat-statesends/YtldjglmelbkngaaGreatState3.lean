/- The contracts of a State's forget, inUse, waits, startTimer. -/
import Derived.Test.YtldjglmelbkngaaGreatStTell
import Derived.Deep.RegionHeld
import Derived.Deep.QuietTactic
import Derived.BigQuiet
namespace Go.Proofs.YtldjglmelbkngaaGreat.Tape
open Go.ChangeShapes Go.WideShapes Go.ChangeAt Go.RowKit
set_option linter.unusedVariables false

attribute [local go_sem] m_hold c_hold

set_option maxRecDepth 100000 in
set_option maxHeartbeats 1000000 in
theorem forget_any (P : Pl) (x : St) : SC P 0 64 #[.pointer (some ⟨P.b, 0, none⟩)] x (.tuple #[]) x.forget := by
  intro k0 w T h
  obtain ⟨hr, T0, v, rfl, hi⟩ := h
  have h1 := hi.put { x with lk := ⟨0, x.lk.s⟩ } 16 (.int .i64 0) rfl rfl rfl rfl rfl rfl
  have h2 := h1.put { x with lk := lk0 } 17 (.int .i64 0) rfl rfl rfl rfl rfl rfl
  have h3 := h2.put { x with lk := lk0 } 5 (.bool x.own) rfl rfl rfl rfl rfl rfl
  have h4 := h3.put { x with lk := lk0, their := false } 6 (.bool false) rfl rfl rfl rfl rfl rfl
  have h5 := h4.put x.forget 7 (.bool false) rfl rfl rfl rfl rfl rfl
  have HI := (show Hid _ from h5)
  have HF : Hid (Foot (setT P T0 v) (setT P T0 v) w (((((w.setCell ⟨P.b, 16, none⟩ (.int .i64 0)).setCell ⟨P.b, 17, none⟩ (.int .i64 0)).setCell ⟨P.b, 5, none⟩ (.bool x.own)).setCell ⟨P.b, 6, none⟩ (.bool false)).setCell ⟨P.b, 7, none⟩ (.bool false))) := ((((Foot.put _ _ _).trans (Foot.put _ _ _)).trans (Foot.put _ _ _)).trans (Foot.put _ _ _)).trans (Foot.put _ _ _)
  have HR : Hid (Room k0 x.forget) := ⟨hr.told, hr.fl, by have := hr.told; show 0 + k0 ≤ 1000; omega, by show 0 ≤ 255; decide, hr.an, hr.tries, hr.st⟩
  obtain ⟨⟨-, -, -, -, -, c5, c6, c7, -, -, c16, c17, -⟩, z⟩ := hi.all
  have z5 := z 5
  have z6 := z 6
  have z7 := z 7
  have z16 := z 16
  have z17 := z 17
  have hlt := heap_lt hi.cells
  clear h1 h2 h3 h4 h5 hr hi z
  go_enter Tryz.func64, Tryz.ntmps64
  go_wp2
  refine bodyPost_end (results_none rfl _ _ _) rfl ?_
  exact ⟨rfl, _, ⟨HR.out, T0, v, rfl, HI.out⟩, HF.out⟩

theorem inUse_any (P : Pl) (x : St) (k : Nat) (T : Nat → Prop) (w : World) (h : StAt w P k T x) : Calls Tryz.prog 80 #[.pointer (some ⟨P.b, 0, none⟩)] w fun e w' => e = .returned (.bool x.inUse) ∧ w' = w := by
  obtain ⟨hr, T0, v, rfl, hi⟩ := h
  obtain ⟨⟨c0, -⟩, -⟩ := hi.all
  unfold St.inUse
  generalize x.s = s at *
  clear hi hr
  by_cases h4 : s = 4
  · subst h4
    go_enter Tryz.func80, Tryz.ntmps80
    go_wp2
    go_ret
    exact ⟨rfl, rfl⟩
  · by_cases h5 : s = 5
    · subst h5
      go_enter Tryz.func80, Tryz.ntmps80
      go_wp2
      go_ret
      exact ⟨rfl, rfl⟩
    · have k4 : (s == 4) = false := by rw [beq_eq_false_iff_ne]; exact h4
      have k5 : (s == 5) = false := by rw [beq_eq_false_iff_ne]; exact h5
      have e0 : decide (s = 4 ∨ s = 5) = false := decide_eq_false (by omega)
      rw [e0]
      go_enter Tryz.func80, Tryz.ntmps80
      go_wp2
      go_ret
      exact ⟨rfl, rfl⟩

/-- Its Hold, through the interface. -/
theorem StIn.hold_ {w : World} {P : Pl} {T0 : Nat → Prop} {v : Value} {x : St} (h : StIn w P T0 v x) : Calls Tryz.prog (fHold P.cy) #[.pointer (some ⟨P.p, 0, none⟩)] w fun e w' => e = .returned (.pointer (some ⟨P.hb, 0, none⟩)) ∧ w' = w := by
  have := whold_any P.p P.hb P.B T0 x.wt x.hs w h.way
  rwa [h.cyc] at this

set_option maxRecDepth 100000 in
theorem waits_any (P : Pl) (x : St) (k : Nat) (T : Nat → Prop) (w : World) (h : StAt w P k T x) : Calls Tryz.prog 70 #[.pointer (some ⟨P.b, 0, none⟩)] w fun e w' => e = .returned (.bool x.waits) ∧ w' = w := by
  obtain ⟨hr, T0, v, rfl, hi⟩ := h
  obtain ⟨⟨-, -, -, -, c4, -⟩, -⟩ := hi.all
  have hho := hi.hold_
  have hse := sent_any P.hb P.B T0 x.hs w hi.way.hold
  have HE : Hid (x.waits = decide ((x.hs.sent.length : Int) > 0)) := by show decide _ = decide _; simp
  generalize x.waits = B at *
  generalize (x.hs.sent.length : Int) = n at *
  clear hi hr
  go_enter Tryz.func70, Tryz.ntmps70
  go_wp2_with fail
  refine hho.mono ?_
  rintro e w1 ⟨rfl, hw1⟩
  obtain rfl := hw1.symm
  clear hho hw1
  go_wp2_with fail
  refine hse.mono ?_
  rintro e w1 ⟨rfl, hw1⟩
  obtain rfl := hw1.symm
  clear hse hw1
  go_wp2
  go_ret
  exact ⟨ret_bool HE.out.symm, rfl⟩

set_option maxRecDepth 100000 in
set_option maxHeartbeats 1000000 in
theorem startTimer_any (P : Pl) (x : St) (k : Nat) (hk : k = 1 ∨ k = 7) : SC P 0 100 #[.pointer (some ⟨P.b, 0, none⟩), .int .i64 k] x (.tuple #[]) (x.start k) := by
  intro k0 w T h
  obtain ⟨hr, T0, v, rfl, hi⟩ := h
  have hD := hi.keep ((Below.refl _ _).drew)
  have hst := start_ok P.c x.A.xs k (x.A.t k) w.drew hD.al.clock (by omega) (hD.al.ok k).1 (hD.al.ok k).2
  have hck := hD.al.clock.set k (x.A.t k) ⟨by have := (hD.al.ok k).1; omega, (hD.al.ok k).2⟩
  obtain ⟨hi2, hF2⟩ := hD.stK hck (kgb_set _)
  have HG : Hid (StIn (w.drew.setCell ⟨P.c, k, none⟩ (.int .i64 (x.A.t k))) P T0 v (x.start k) ∧ Foot (setT P T0 v) (setT P T0 v) w (w.drew.setCell ⟨P.c, k, none⟩ (.int .i64 (x.A.t k)))) := ⟨hi2, (Foot.of_below ((Below.refl _ _).drew)).trans hF2⟩
  have HR : Hid (Room k0 (x.start k)) := hr.same rfl rfl rfl rfl rfl rfl
  obtain ⟨⟨-, c1, -, -, -, -, -, -, c9, c15, -⟩, -⟩ := hi.all
  clear hi hD hck hi2 hF2 hr
  rcases hk with rfl | rfl
  · go_enter Tryz.func100, Tryz.ntmps100
    go_region_held (fun W => W.cell? ⟨P.b, 1, none⟩ = some (.pointer (some ⟨P.c, 0, none⟩)) ∧ W.cell? ⟨P.b, 9, none⟩ = some (.int .i64 (x.A.t 1))) (first | assumption | go_keep)
      (first
      | (go_at_call 113; refine hst.mono ?_; rintro e w1 ⟨rfl, hw1⟩; have hS : w1.cell? ⟨P.b, 1, none⟩ = some (.pointer (some ⟨P.c, 0, none⟩)) ∧ w1.cell? ⟨P.b, 9, none⟩ = some (.int .i64 (x.A.t 1)) := (by have ha := HG.out.1.all.1; rw [hw1]; exact ⟨ha.2.1, ha.2.2.2.2.2.2.2.2.1⟩); have HW : Hid (w1 = _) := hw1; clear hw1))
    all_goals (go_wp2; refine bodyPost_end (results_none rfl _ _ _) rfl ?_; exact ⟨rfl, _, ⟨HR.out, T0, v, rfl, by rw [HW.out]; exact HG.out.1⟩, by rw [HW.out]; exact HG.out.2⟩)
  · go_enter Tryz.func100, Tryz.ntmps100
    go_region_held (fun W => W.cell? ⟨P.b, 1, none⟩ = some (.pointer (some ⟨P.c, 0, none⟩)) ∧ W.cell? ⟨P.b, 15, none⟩ = some (.int .i64 (x.A.t 7))) (first | assumption | go_keep)
      (first
      | (go_at_call 113; refine hst.mono ?_; rintro e w1 ⟨rfl, hw1⟩; have hS : w1.cell? ⟨P.b, 1, none⟩ = some (.pointer (some ⟨P.c, 0, none⟩)) ∧ w1.cell? ⟨P.b, 15, none⟩ = some (.int .i64 (x.A.t 7)) := (by have ha := HG.out.1.all.1; rw [hw1]; exact ⟨ha.2.1, ha.2.2.2.2.2.2.2.2.2.1⟩); have HW : Hid (w1 = _) := hw1; clear hw1))
    all_goals (go_wp2; refine bodyPost_end (results_none rfl _ _ _) rfl ?_; exact ⟨rfl, _, ⟨HR.out, T0, v, rfl, by rw [HW.out]; exact HG.out.1⟩, by rw [HW.out]; exact HG.out.2⟩)
end Go.Proofs.YtldjglmelbkngaaGreat.Tape
