/- The contracts of a State's Fail, failFor, await, answered, halt. -/
import Derived.Test.YtldjglmelbkngaaGreatState3
namespace Go.Proofs.YtldjglmelbkngaaGreat.Tape
open Go.ChangeShapes Go.WideShapes Go.ChangeAt Go.RowKit
set_option linter.unusedVariables false

/-- A row of one number, as the call of Stop has it. -/
theorem one_reads (Y : World) (k : Int) : Reads (Y.alloc (.cells #[.int .i64 k] 3)) (some ⟨Y.heap.size, 0, none⟩) ([k].map (.int .i64)) := fun i v hi => by
  have hh := heap_alloc_new Y (.cells #[.int .i64 k] 3)
  match i, hi with
  | 0, hi =>
    simp only [List.map_cons, List.map_nil, List.getElem?_cons_zero, Option.some.injEq] at hi
    subst hi
    exact ⟨_, _, rfl, by rw [Lib.cell_of_heap hh]; rfl⟩
  | i + 1, hi => simp at hi

/-- A clock's Stop of one timer. -/
theorem StIn.stop_ {w : World} {P : Pl} {T0 : Nat → Prop} {v : Value} {x : St} (h : StIn w P T0 v x) (k : Int) : Calls Tryz.prog 71 #[.pointer (some ⟨P.c, 0, none⟩), .slice (some ⟨w.heap.size, 0, none⟩) 1 1] (w.alloc (.cells #[.int .i64 k] 3)) fun e w' => e = .returned (.tuple #[]) ∧ StIn w' P T0 v (x.stop k) ∧ Foot (setT P T0 v) (setT P T0 v) w w' := by
  have hB : Below w.heap.size w (w.alloc (.cells #[.int .i64 k] 3)) := (Below.refl _ _).alloc (Nat.le_refl _) _
  have hi := h.keep hB
  refine (stop_any P.c 1 1 (some ⟨w.heap.size, 0, none⟩) x.A.xs [k] _ hi.al.clock rfl (by decide) (one_reads w k) (fun a e => ?_)).mono ?_
  · simp only [Option.some.injEq] at e
    subst e
    refine ⟨by simp, fun e => ?_⟩
    have hlt := h.al.lt.2
    have e' : w.heap.size = P.c := e
    omega
  · rintro e w' ⟨rfl, hc, hg⟩
    obtain ⟨h1, h2⟩ := hi.stK hc hg
    exact ⟨rfl, h1, (Foot.of_below hB).trans h2⟩

theorem Room.start {k : Nat} {x : St} (h : Room k x) (xs : List Int) : Room k (x.setC xs) := h.same rfl rfl rfl rfl rfl rfl
theorem Room.await {k : Nat} {x : St} (h : Room k x) : Room k x.await := by
  unfold St.await
  split
  · exact h.start _
  · exact h

set_option maxRecDepth 100000 in
set_option maxHeartbeats 1000000 in
theorem await_any (P : Pl) (x : St) : SC P 0 69 #[.pointer (some ⟨P.b, 0, none⟩)] x (.tuple #[]) x.await := by
  intro k w T h
  have hw := waits_any P x _ T w h
  have hst := startTimer_any P x 7 (.inr rfl) k w T h
  have hid : StAt w P k T x ∧ Foot T T w w := ⟨h, Foot.refl _ _⟩
  obtain ⟨hr, T0, v, rfl, hi⟩ := h
  have hon := on_any P.c x.A.xs 7 w hi.al.clock
  obtain ⟨⟨-, c1, -⟩, -⟩ := hi.all
  have HE : Hid (x.await = if x.waits = true ∧ (lft x.A.xs 7 != 0) = false then x.start 7 else x) := rfl
  have HD := (show Hid _ from hid)
  generalize x.await = R at *
  generalize x.waits = a at *
  generalize (lft x.A.xs 7 != 0) = b at *
  clear hi hr hid
  cases a
  · have hx : R = x := by rw [HE.out]; simp
    subst hx
    clear HE hon hst
    go_enter Tryz.func69, Tryz.ntmps69
    go_wp2_with (go_at_call 70; refine hw.mono ?_; rintro e w1 ⟨rfl, hw1⟩; obtain rfl := hw1.symm; clear hw1)
    refine bodyPost_end (results_none rfl _ _ _) rfl ?_
    exact ⟨rfl, _, HD.out⟩
  · cases b
    · have hx : R = x.start 7 := by rw [HE.out]; simp
      subst hx
      clear HE HD
      go_enter Tryz.func69, Tryz.ntmps69
      go_wp2_with (first
        | (go_at_call 70; refine hw.mono ?_; rintro e w1 ⟨rfl, hw1⟩; obtain rfl := hw1.symm; clear hw1)
        | (go_at_call 30; refine hon.mono ?_; rintro e w1 ⟨rfl, hw1⟩; obtain rfl := hw1.symm; clear hw1)
        | (go_at_call 100; refine hst.mono ?_; rintro e w2 ⟨rfl, T2, h2, hF2⟩))
      refine bodyPost_end (results_none rfl _ _ _) rfl ?_
      exact ⟨rfl, _, h2, hF2⟩
    · have hx : R = x := by rw [HE.out]; simp
      subst hx
      clear HE hst
      go_enter Tryz.func69, Tryz.ntmps69
      go_wp2_with (first
        | (go_at_call 70; refine hw.mono ?_; rintro e w1 ⟨rfl, hw1⟩; obtain rfl := hw1.symm; clear hw1)
        | (go_at_call 30; refine hon.mono ?_; rintro e w1 ⟨rfl, hw1⟩; obtain rfl := hw1.symm; clear hw1))
      refine bodyPost_end (results_none rfl _ _ _) rfl ?_
      exact ⟨rfl, _, HD.out⟩

set_option maxRecDepth 100000 in
set_option maxHeartbeats 1000000 in
theorem answered_any (P : Pl) (x : St) : SC P 0 106 #[.pointer (some ⟨P.b, 0, none⟩)] x (.tuple #[]) x.answered := by
  intro k w T h
  obtain ⟨hr, T0, v, rfl, hi⟩ := h
  have hst := hi.stop_ 7
  have HR : Hid (Room k (x.stop 7)) := hr.start _
  obtain ⟨⟨-, c1, -⟩, -⟩ := hi.all
  clear hi hr
  go_enter Tryz.func106, Tryz.ntmps106
  go_wp2_with fail
  refine hst.mono ?_
  rintro e w1 ⟨rfl, h1, hF1⟩
  have haw := await_any P (x.stop 7) k w1 _ ⟨HR.out, T0, v, rfl, h1⟩
  clear h1 hst
  go_wp2_with (go_at_call 69; refine haw.mono ?_; rintro e w2 ⟨rfl, T2, h2, hF2⟩)
  refine bodyPost_end (results_none rfl _ _ _) rfl ?_
  exact ⟨rfl, _, h2, hF1.trans hF2⟩

set_option maxRecDepth 100000 in
set_option maxHeartbeats 1000000 in
theorem halt_any (P : Pl) (x : St) : SC P 0 89 #[.pointer (some ⟨P.b, 0, none⟩)] x (.tuple #[]) x.halt := by
  intro k w T h
  obtain ⟨hr, T0, v, rfl, hi⟩ := h
  have HR : Hid (Room k x.halt) := hr.same rfl rfl rfl rfl rfl rfl
  have h1 := hi.put x.halt5 0 (.int .u8 5) rfl rfl rfl rfl rfl rfl
  have HF1 : Hid (Foot (setT P T0 v) (setT P T0 v) w (w.setCell ⟨P.b, 0, none⟩ (.int .u8 5))) := Foot.put _ _ _
  have hcl := clear_ja P.j P.c x.J _ h1.ja
  have HI := (show Hid _ from h1)
  obtain ⟨⟨c0, -, -, c3, -⟩, z⟩ := hi.all
  have z0 := z 0
  have hlt := heap_lt hi.cells
  clear h1 hi z hr
  go_enter Tryz.func89, Tryz.ntmps89
  go_wp2_with fail
  refine hcl.mono ?_
  rintro e w2 ⟨rfl, hJ, hf⟩
  obtain ⟨h2, hF2⟩ := HI.out.stJ hJ hf
  have HF2 : Hid (Foot (setT P T0 v) (setT P T0 v) w w2) := HF1.out.trans hF2
  have hst := h2.stop_ 7
  obtain ⟨⟨-, c1, -⟩, -⟩ := h2.all
  clear hJ hf h2 hF2 hcl c0 c3 z0 hlt
  go_wp2_with fail
  refine hst.mono ?_
  rintro e w3 ⟨rfl, h3, hF3⟩
  go_wp2
  refine bodyPost_end (results_none rfl _ _ _) rfl ?_
  exact ⟨rfl, _, ⟨HR.out, T0, v, rfl, h3⟩, HF2.out.trans hF3⟩

/-- One more failure. -/
def St.down1 (x : St) : St := { ({ x.clr with s := 0 } : St).forget with fl := x.fl + 1 }
theorem Room.down1 {k : Nat} {x : St} (h : Room (k + 1) x) : Room k x.down1 := by
  obtain ⟨r1, r2, r3, r4, r5, r6, r7⟩ := h
  exact ⟨by show x.told.length + k ≤ 1000; omega, by show 0 ≤ x.fl + 1 ∧ x.fl + 1 + (k : Int) ≤ 1000; omega, by show 0 + k ≤ 1000; omega, by show 0 ≤ 255; decide, by show 0 ≤ x.A.n ∧ x.A.n + (k : Int) ≤ 1000; omega, by show 0 ≤ x.A.tries ∧ x.A.tries + (k : Int) ≤ 1000; omega, by show (0 : Int) ≤ 0 ∧ (0 : Int) ≤ 3; decide⟩
theorem Room.out {k : Nat} {x : St} (h : Room k x) : Room k { x.clr with s := 0 } := ⟨h.told, h.fl, h.n, h.s, h.an, h.tries, by show (0 : Int) ≤ 0 ∧ (0 : Int) ≤ 3; decide⟩

set_option maxRecDepth 100000 in
set_option maxHeartbeats 2000000 in
theorem fail_any (P : Pl) (x : St) (why : Int) : SC P 2 34 #[.pointer (some ⟨P.b, 0, none⟩), .int .u8 why] x (.tuple #[]) (x.fail why) := by
  intro k w T h
  by_cases hs : x.s = 0
  · have e0 : x.fail why = x := if_pos hs
    have HD : Hid (StAt w P k T x) := h.mono (by omega)
    obtain ⟨hr, T0, v, rfl, hi⟩ := h
    obtain ⟨⟨c0, -⟩, -⟩ := hi.all
    rw [hs] at c0
    rw [e0]
    clear hi hr
    go_enter Tryz.func34, Tryz.ntmps34
    go_wp2
    refine bodyPost_ret (v := .tuple #[]) (by simp [results, Tryz.results34, go_sem]) rfl ?_
    exact ⟨rfl, _, HD.out, Foot.refl _ _⟩
  · have e0 : x.fail why = x.down why := if_neg hs
    rw [e0]
    obtain ⟨hr, T0, v, rfl, hi⟩ := h
    have HR : Hid (Room (k + 2) x) := hr
    have HR7 : Hid (Room (k + 1) x.down1) := Room.down1 hr
    have HFL : Hid (0 ≤ x.fl ∧ x.fl ≤ 1000) := ⟨hr.fl.1, by have := hr.fl.2; omega⟩
    have ks : (x.s == 0) = false := by rw [beq_eq_false_iff_ne]; exact hs
    have hcl := end_al P.a P.c x.A w hi.al
    obtain ⟨⟨c0, -, c2, -⟩, -⟩ := hi.all
    have HI := (show Hid (StIn w P T0 v x) from hi)
    generalize hS : x.s = S at *
    clear hi hr hS e0 hs
    go_enter Tryz.func34, Tryz.ntmps34
    go_wp2_with fail
    refine hcl.mono ?_
    rintro e w2 ⟨rfl, hA, hf⟩
    obtain ⟨h2, hF2⟩ := HI.out.stA hA hf rfl
    have HF2 : Hid (Foot (setT P T0 v) (setT P T0 v) w w2) := hF2
    have HI2 : Hid (StIn w2 P T0 v x.clr1) := h2
    have hja := clear_ja P.j P.c x.clr1.J w2 h2.ja
    obtain ⟨⟨-, -, -, c3, -⟩, -⟩ := h2.all
    clear hA hf h2 hF2 hcl c0 c2 HI ks
    go_wp2_with fail
    refine hja.mono ?_
    rintro e w3 ⟨rfl, hJ, hf⟩
    obtain ⟨h3, hF3⟩ := HI2.out.stJ hJ hf
    have HF3 : Hid (Foot (setT P T0 v) (setT P T0 v) w w3) := HF2.out.trans hF3
    have HI3 : Hid (StIn w3 P T0 v x.clr2) := h3
    have hkc := kclear_any P.c x.clr2.A.xs w3 h3.al.clock
    obtain ⟨⟨-, c1, -⟩, -⟩ := h3.all
    clear hJ hf h3 hF3 hja c3 HI2 HF2
    go_wp2_with fail
    refine hkc.mono ?_
    rintro e w4 ⟨rfl, hC, hg⟩
    obtain ⟨h4, hF4⟩ := HI3.out.stK hC hg
    have h4' : StIn w4 P T0 v x.clr := h4
    have h5 := h4'.put { x.clr with s := 0 } 0 (.int .u8 0) rfl rfl rfl rfl rfl rfl
    have HF5 : Hid (Foot (setT P T0 v) (setT P T0 v) w (w4.setCell ⟨P.b, 0, none⟩ (.int .u8 0))) := (HF3.out.trans hF4).trans (Foot.put _ _ _)
    have hfo := forget_any P { x.clr with s := 0 } (k + 2) _ _ ⟨HR.out.out, T0, v, rfl, h5⟩
    obtain ⟨⟨c0, -⟩, z⟩ := h4'.all
    have z0 := z 0
    have hlt := heap_lt h4'.cells
    clear hC hg h4 h4' h5 hF4 hkc c1 HI3 HF3 z
    go_wp2_with fail
    refine hfo.mono ?_
    rintro e w6 ⟨rfl, T6, ⟨hr6, T06, v6, rfl, h6⟩, hF6⟩
    have h7 := h6.put x.down1 19 (.int .i64 (x.fl + 1)) rfl rfl rfl rfl rfl rfl
    have HF7 : Hid (Foot (setT P T0 v) (setT P T06 v6) w (w6.setCell ⟨P.b, 19, none⟩ (.int .i64 (x.fl + 1)))) := (HF5.out.trans hF6).trans (Foot.put _ _ _)
    have hte := tell_any P x.down1 2 why none 0 0 k _ _ ⟨HR7.out, T06, v6, rfl, h7⟩
    have c19 : w6.cell? ⟨P.b, 19, none⟩ = some (.int .i64 x.fl) := h6.all.1.2.2.2.2.2.2.2.2.2.2.2.2.2
    have z19 := h6.all.2 19
    have hlt := heap_lt h6.cells
    have hfl := HFL.out
    have hwr : IntKind.i64.wrap (x.fl + 1) = x.fl + 1 := wrap_small _ (by omega) (by omega)
    clear h6 h7 hr6 hfl hF6 hfo c0 z0 HF5
    generalize x.fl = fl at *
    go_wp2_with fail
    refine hte.mono ?_
    rintro e w8 ⟨rfl, T8, h8, hF8⟩
    go_wp2
    refine bodyPost_end (results_none rfl _ _ _) rfl ?_
    exact ⟨rfl, _, h8, HF7.out.trans hF8⟩

theorem failFor_any (P : Pl) (x : St) (why : Int) : SC P 2 46 #[.pointer (some ⟨P.b, 0, none⟩), .int .u8 why] x (.tuple #[]) (x.failFor why) := by
  intro k w T h
  by_cases hs : why = 0
  · subst hs
    have HD : Hid (StAt w P k T (x.failFor 0)) := h.mono (by omega)
    go_enter Tryz.func46, Tryz.ntmps46
    go_wp2
    refine bodyPost_end (results_none rfl _ _ _) rfl ?_
    exact ⟨rfl, _, HD.out, Foot.refl _ _⟩
  · have e0 : x.failFor why = x.fail why := if_neg hs
    have ks : (why == 0) = false := by rw [beq_eq_false_iff_ne]; exact hs
    rw [e0]
    have hf := fail_any P x why k w T h
    clear h e0 hs
    go_enter Tryz.func46, Tryz.ntmps46
    go_wp2_with (go_at_call 34; refine hf.mono ?_; rintro e w2 ⟨rfl, T2, h2, hF2⟩)
    refine bodyPost_end (results_none rfl _ _ _) rfl ?_
    exact ⟨rfl, _, h2, hF2⟩
end Go.Proofs.YtldjglmelbkngaaGreat.Tape
