/- The contracts of a State's count, Damage, heardLink. -/
import Derived.Test.YtldjglmelbkngaaGreatState5
namespace Go.Proofs.YtldjglmelbkngaaGreat.Tape
open Go.ChangeShapes Go.WideShapes Go.ChangeAt Go.RowKit
set_option linter.unusedVariables false

/-- The two cells of its Leak. -/
theorem StIn.putL {w : World} {P : Pl} {T0 : Nat → Prop} {v : Value} {x : St} (h : StIn w P T0 v x) (l : Lk) : StIn ((w.setCell ⟨P.b, 16, none⟩ (.int .i64 l.n)).setCell ⟨P.b, 17, none⟩ (.int .i64 l.s)) P T0 v { x with lk := l } ∧ Foot (setT P T0 v) (setT P T0 v) w ((w.setCell ⟨P.b, 16, none⟩ (.int .i64 l.n)).setCell ⟨P.b, 17, none⟩ (.int .i64 l.s)) :=
  ⟨(h.put { x with lk := ⟨l.n, x.lk.s⟩ } 16 (.int .i64 l.n) rfl rfl rfl rfl rfl rfl).put { x with lk := l } 17 (.int .i64 l.s) rfl rfl rfl rfl rfl rfl, (Foot.put _ _ _).trans (Foot.put _ _ _)⟩

theorem Room.lkU {k : Nat} {x : St} (h : Room (k + 1) x) (wr : Bool) : Room k (x.lkU wr) := by
  obtain ⟨r1, r2, r3, r4, r5, r6, r7⟩ := h
  have h1 := unit_n x.lk wr
  have h2 := unit_s x.lk wr r4
  exact ⟨by show x.told.length + k ≤ 1000; omega, by show 0 ≤ x.fl ∧ x.fl + (k : Int) ≤ 1000; omega, by show (x.lk.unit wr).n + k ≤ 1000; omega, h2, by show 0 ≤ x.A.n ∧ x.A.n + (k : Int) ≤ 1000; omega, by show 0 ≤ x.A.tries ∧ x.A.tries + (k : Int) ≤ 1000; omega, r7⟩

set_option maxRecDepth 100000 in
set_option maxHeartbeats 2000000 in
theorem count_any (P : Pl) (x : St) (wr : Bool) : SC P 3 45 #[.pointer (some ⟨P.b, 0, none⟩), .bool wr] x (.tuple #[]) (x.count wr) := by
  intro k w T h
  have HD : Hid (StAt w P (k + 3) T x) := h
  obtain ⟨hr, T0, v, rfl, hi⟩ := h
  obtain ⟨⟨c0, -, c2, -, -, -, -, -, -, -, c16, c17, -⟩, -⟩ := hi.all
  have HP : Hid (x.count wr = if x.s = 0 then x else if x.s = 1 then (x.setA (x.A.unit wr)).failFor (x.A.unitWhy wr) else if 64 ≤ (x.lk.unit wr).n then (x.lkU wr).fail 1 else x.lkU wr) := rfl
  by_cases h0 : x.s = 0
  · rw [h0] at c0
    have HX : Hid (x.count wr = x) := by show _ = _; rw [HP.out, if_pos h0]
    clear hi hr h0 HP c2 c16 c17
    go_enter Tryz.func45, Tryz.ntmps45
    go_wp2
    refine bodyPost_end (results_none rfl _ _ _) rfl ?_
    exact ⟨rfl, _, by rw [HX.out]; exact HD.out.mono (by omega), Foot.refl _ _⟩
  by_cases h1 : x.s = 1
  · rw [h1] at c0
    have HX : Hid (x.count wr = (x.setA (x.A.unit wr)).failFor (x.A.unitWhy wr)) := by show _ = _; rw [HP.out, if_neg h0, if_pos h1]
    have hun := unit_al P.a P.c x.A wr w hi.al (by have := hr.an; omega) (by have := hr.tries; omega)
    have HI : Hid (StIn w P T0 v x) := hi
    have HR : Hid (Room (k + 2) (x.setA (x.A.unit wr))) := Room.setA (hr.mono (by omega)) (RA.unit hr.ra wr)
    clear hi hr h0 h1 HP c16 c17 HD
    go_enter Tryz.func45, Tryz.ntmps45
    go_wp2_with fail
    refine hun.mono ?_
    rintro e w1 ⟨rfl, hA, hf⟩
    obtain ⟨h1, hF1⟩ := HI.out.stA hA hf (t_unit _ _)
    have hff := failFor_any P (x.setA (x.A.unit wr)) (x.A.unitWhy wr) k w1 _ ⟨HR.out, T0, v, rfl, h1⟩
    have HF1 : Hid (Foot (setT P T0 v) (setT P T0 v) w w1) := hF1
    clear hun hA hf h1 hF1 c0 c2
    go_wp2_with fail
    refine hff.mono ?_
    rintro e w2 ⟨rfl, T2, h2, hF2⟩
    go_wp2
    refine bodyPost_end (results_none rfl _ _ _) rfl ?_
    exact ⟨rfl, _, by rw [HX.out]; exact h2, HF1.out.trans hF2⟩
  have k0 : (x.s == 0) = false := by rw [beq_eq_false_iff_ne]; exact h0
  have k1 : (x.s == 1) = false := by rw [beq_eq_false_iff_ne]; exact h1
  have HQ : Hid (x.count wr = if 64 ≤ (x.lk.unit wr).n then (x.lkU wr).fail 1 else x.lkU wr) := by show _ = _; rw [HP.out, if_neg h0, if_neg h1]
  obtain ⟨l, hl⟩ : ∃ l, x.lk.unit wr = l := ⟨_, rfl⟩
  have hle := lunit_any x.lk.n x.lk.s wr l w hl (by have := hr.n; omega) hr.s
  have HI : Hid (StIn w P T0 v x) := hi
  have HR : Hid (Room (k + 2) (x.lkU wr)) := hr.lkU wr
  have HLU : Hid (x.lkU wr = { x with lk := l }) := by show _ = _; rw [St.lkU, hl]
  rw [hl] at HQ
  generalize hS : x.s = S at c0 k0 k1
  clear hi hr h0 h1 c2 HD hl hS
  by_cases h64 : 64 ≤ l.n
  · have HX : Hid (x.count wr = ({ x with lk := l } : St).fail 1) := by show _ = _; rw [HQ.out, if_pos h64, HLU.out]
    rw [decide_eq_true h64] at hle
    clear h64 HP HQ
    go_enter Tryz.func45, Tryz.ntmps45
    go_wp2_with fail
    refine hle.mono ?_
    rintro e w1 ⟨rfl, hB1⟩
    have h1 := HI.out.keep hB1
    have hal : Below w1.heap.size w1 (w1.alloc (.cells #[.int .i64 l.n, .int .i64 l.s] 43)) := (Below.refl _ _).alloc (Nat.le_refl _) _
    have h1' := h1.keep hal
    obtain ⟨h2, hF2⟩ := h1'.putL l
    have HF2 : Hid (Foot (setT P T0 v) (setT P T0 v) w (((w1.alloc (.cells #[.int .i64 l.n, .int .i64 l.s] 43)).setCell ⟨P.b, 16, none⟩ (.int .i64 l.n)).setCell ⟨P.b, 17, none⟩ (.int .i64 l.s))) := ((Foot.of_below hB1).trans (Foot.of_below hal)).trans hF2
    have hR2 := HR.out
    rw [HLU.out] at hR2
    have hfa := fail_any P { x with lk := l } 1 k _ _ ⟨hR2, T0, v, rfl, h2⟩
    obtain ⟨⟨-, -, -, -, -, -, -, -, -, -, d16, d17, -⟩, z⟩ := h1'.all
    have z16 := z 16
    have z17 := z 17
    have hlt := heap_lt h1'.cells
    clear h1 h1' h2 hF2 hal hB1 hle z c16 c17 c0 hR2
    go_wp2_with fail
    refine hfa.mono ?_
    rintro e w3 ⟨rfl, T3, h3, hF3⟩
    go_wp2
    refine bodyPost_end (results_none rfl _ _ _) rfl ?_
    exact ⟨rfl, _, by rw [HX.out]; exact h3, HF2.out.trans hF3⟩
  · have HX : Hid (x.count wr = { x with lk := l }) := by show _ = _; rw [HQ.out, if_neg h64, HLU.out]
    rw [decide_eq_false h64] at hle
    clear h64 HP HQ
    go_enter Tryz.func45, Tryz.ntmps45
    go_wp2_with fail
    refine hle.mono ?_
    rintro e w1 ⟨rfl, hB1⟩
    have h1 := HI.out.keep hB1
    have hal : Below w1.heap.size w1 (w1.alloc (.cells #[.int .i64 l.n, .int .i64 l.s] 43)) := (Below.refl _ _).alloc (Nat.le_refl _) _
    have h1' := h1.keep hal
    obtain ⟨h2, hF2⟩ := h1'.putL l
    have HS2 : Hid (StIn (((w1.alloc (.cells #[.int .i64 l.n, .int .i64 l.s] 43)).setCell ⟨P.b, 16, none⟩ (.int .i64 l.n)).setCell ⟨P.b, 17, none⟩ (.int .i64 l.s)) P T0 v { x with lk := l } ∧ Foot (setT P T0 v) (setT P T0 v) w (((w1.alloc (.cells #[.int .i64 l.n, .int .i64 l.s] 43)).setCell ⟨P.b, 16, none⟩ (.int .i64 l.n)).setCell ⟨P.b, 17, none⟩ (.int .i64 l.s))) := ⟨h2, ((Foot.of_below hB1).trans (Foot.of_below hal)).trans hF2⟩
    obtain ⟨⟨-, -, -, -, -, -, -, -, -, -, d16, d17, -⟩, z⟩ := h1'.all
    have z16 := z 16
    have z17 := z 17
    have hlt := heap_lt h1'.cells
    clear h1 h1' h2 hF2 hal hB1 hle z c16 c17 c0
    go_wp2
    refine bodyPost_end (results_none rfl _ _ _) rfl ?_
    exact ⟨rfl, _, by rw [HX.out, ← HLU.out]; exact ⟨HR.out.mono (by omega), T0, v, rfl, by rw [HLU.out]; exact HS2.out.1⟩, HS2.out.2⟩

theorem damage_any (P : Pl) (x : St) : SC P 3 23 #[.pointer (some ⟨P.b, 0, none⟩)] x (.tuple #[]) (x.count true) := by
  intro k w T h
  have hc := count_any P x true k w T h
  clear h
  go_enter Tryz.func23, Tryz.ntmps23
  go_wp2_with (go_at_call 45; refine hc.mono ?_; rintro e w2 ⟨rfl, T2, h2, hF2⟩)
  refine bodyPost_end (results_none rfl _ _ _) rfl ?_
  exact ⟨rfl, _, h2, hF2⟩

set_option maxRecDepth 100000 in
set_option maxHeartbeats 2000000 in
theorem heardLink_any (P : Pl) (x : St) (n : Int) : SC P 2 48 #[.pointer (some ⟨P.b, 0, none⟩), .int .u8 n] x (.tuple #[]) (x.heardLink n) := by
  intro k w T h
  have hin := inUse_any P x _ T w h
  have f8 := fail_any P x 8 k w T h
  have f9 := fail_any P x 9 k w T h
  have fo := theyOut_any P x k w T h
  have HD : Hid (StAt w P (k + 2) T x) := h
  have HP : Hid (x.heardLink n = if n = 3 then x.fail 8 else if n = 0 ∨ (x.inUse = true ∧ (n = 1 ∨ n = 2)) then x.fail 9 else if n = 4 then x.theyOut else if n = 5 ∧ x.s = 4 then x.jamHeard else x) := rfl
  by_cases h3 : n = 3
  · subst h3
    have HX : Hid (x.heardLink 3 = x.fail 8) := by show _ = _; rw [HP.out, if_pos rfl]
    clear HP hin f9 fo h
    go_enter Tryz.func48, Tryz.ntmps48
    go_wp2_with (go_at_call 34; refine f8.mono ?_; rintro e w2 ⟨rfl, T2, h2, hF2⟩)
    refine bodyPost_end (results_none rfl _ _ _) rfl ?_
    exact ⟨rfl, _, by rw [HX.out]; exact h2, hF2⟩
  by_cases h0 : n = 0
  · subst h0
    have HX : Hid (x.heardLink 0 = x.fail 9) := by show _ = _; rw [HP.out, if_neg h3, if_pos (.inl rfl)]
    clear HP hin f8 fo h h3
    go_enter Tryz.func48, Tryz.ntmps48
    go_wp2_with (go_at_call 34; refine f9.mono ?_; rintro e w2 ⟨rfl, T2, h2, hF2⟩)
    refine bodyPost_end (results_none rfl _ _ _) rfl ?_
    exact ⟨rfl, _, by rw [HX.out]; exact h2, hF2⟩
  have k3 : (n == 3) = false := by rw [beq_eq_false_iff_ne]; exact h3
  have k0 : (n == 0) = false := by rw [beq_eq_false_iff_ne]; exact h0
  by_cases h12 : n = 1 ∨ n = 2
  · rcases (by decide : ∀ b : Bool, b = true ∨ b = false) x.inUse with hu | hu
    · have HX : Hid (x.heardLink n = x.fail 9) := by show _ = _; rw [HP.out, if_neg h3, if_pos (.inr ⟨hu, h12⟩)]
      rw [hu] at hin
      clear HP f8 fo h h3 h0 hu
      rcases h12 with rfl | rfl
      all_goals
        clear k3 k0
        go_enter Tryz.func48, Tryz.ntmps48
        go_wp2_with (first
          | (go_at_call 80; refine hin.mono ?_; rintro e w1 ⟨rfl, hw1⟩; obtain rfl := hw1.symm; clear hw1)
          | (go_at_call 34; refine f9.mono ?_; rintro e w2 ⟨rfl, T2, h2, hF2⟩))
        refine bodyPost_end (results_none rfl _ _ _) rfl ?_
        exact ⟨rfl, _, by rw [HX.out]; exact h2, hF2⟩
    · have HX : Hid (x.heardLink n = x) := by
        show _ = _
        rw [HP.out, if_neg h3, if_neg (by rintro (e | e); exact h0 e; rw [hu] at e; cases e.1), if_neg (by omega), if_neg (by omega)]
      rw [hu] at hin
      clear HP f8 f9 fo h h3 h0 hu
      rcases h12 with rfl | rfl
      all_goals
        clear k3 k0
        go_enter Tryz.func48, Tryz.ntmps48
        go_wp2_with (go_at_call 80; refine hin.mono ?_; rintro e w1 ⟨rfl, hw1⟩; obtain rfl := hw1.symm; clear hw1)
        refine bodyPost_end (results_none rfl _ _ _) rfl ?_
        exact ⟨rfl, _, by rw [HX.out]; exact HD.out.mono (by omega), Foot.refl _ _⟩
  have h1 : n ≠ 1 := fun e => h12 (.inl e)
  have h2 : n ≠ 2 := fun e => h12 (.inr e)
  have k1 : (n == 1) = false := by rw [beq_eq_false_iff_ne]; exact h1
  have k2 : (n == 2) = false := by rw [beq_eq_false_iff_ne]; exact h2
  have HQ : Hid (x.heardLink n = if n = 4 then x.theyOut else if n = 5 ∧ x.s = 4 then x.jamHeard else x) := by
    show _ = _
    rw [HP.out, if_neg h3, if_neg (by rintro (e | e); exact h0 e; exact h12 e.2)]
  clear HP
  generalize x.inUse = iu at *
  clear f8 f9 h12 h3 h0 h1 h2
  by_cases h4 : n = 4
  · subst h4
    have HX : Hid (x.heardLink 4 = x.theyOut) := by show _ = _; rw [HQ.out, if_pos rfl]
    clear HQ h k0 k1 k2 k3
    cases iu
    all_goals
      go_enter Tryz.func48, Tryz.ntmps48
      go_wp2_with (first
        | (go_at_call 80; refine hin.mono ?_; rintro e w1 ⟨rfl, hw1⟩; obtain rfl := hw1.symm; clear hw1)
        | (go_at_call 81; refine fo.mono ?_; rintro e w2 ⟨rfl, T2, h2, hF2⟩))
      refine bodyPost_end (results_none rfl _ _ _) rfl ?_
      exact ⟨rfl, _, by rw [HX.out]; exact h2, hF2⟩
  have k4 : (n == 4) = false := by rw [beq_eq_false_iff_ne]; exact h4
  have HZ : Hid (x.heardLink n = if n = 5 ∧ x.s = 4 then x.jamHeard else x) := by show _ = _; rw [HQ.out, if_neg h4]
  clear HQ
  obtain ⟨hr, T0, v, rfl, hi⟩ := h
  obtain ⟨⟨c0, -, -, c3, -⟩, -⟩ := hi.all
  by_cases h5 : n = 5
  · subst h5
    by_cases hs : x.s = 4
    · have HX : Hid (x.heardLink 5 = x.jamHeard) := by show _ = _; rw [HZ.out, if_pos ⟨rfl, hs⟩]
      rw [hs] at c0
      have hD := hi.keep ((Below.refl _ _).drew)
      have hwa := waits_any P x _ _ w.drew ⟨hr, T0, v, rfl, hD⟩
      have hhe := heard_ja P.j P.c x.J x.waits w.drew hD.ja
      have HID : Hid (StIn w.drew P T0 v x) := hD
      have HR : Hid (Room (k + 1) (x.setJ (x.J.heard x.waits))) := (hr.mono (by omega)).same rfl rfl rfl rfl rfl rfl
      have HT : Hid (x.jamHeard = if x.J.their = true then x.setJ (x.J.heard x.waits) else (x.setJ (x.J.heard x.waits)).tell 6 0 nilV) := rfl
      generalize x.waits = wa at *
      have d3 := hD.all.1.2.2.2.1
      clear HZ hr hi hs h4 k0 k1 k2 k3 k4 hD fo
      rcases (by decide : ∀ b : Bool, b = true ∨ b = false) x.J.their with ht | ht
      · have HY : Hid (x.jamHeard = x.setJ (x.J.heard wa)) := by show _ = _; rw [HT.out, if_pos ht]
        rw [ht] at hhe
        clear ht HT
        cases iu
        all_goals
          go_enter Tryz.func48, Tryz.ntmps48
          go_wp2_with (go_at_call 80; refine hin.mono ?_; rintro e w1 ⟨rfl, hw1⟩; obtain rfl := hw1.symm; clear hw1)
          go_region_held (fun Y => Y.cell? ⟨P.b, 3, none⟩ = some (.pointer (some ⟨P.j, 0, none⟩))) (assumption)
            (first
            | (go_at_call 70; refine hwa.mono ?_; rintro e w1 ⟨rfl, hw1⟩; obtain rfl := hw1.symm; clear hw1)
            | (go_at_call 82; refine hhe.mono ?_; rintro e w2 ⟨rfl, hJ, hf⟩; have hS2 := (HID.out.stJ hJ hf).1.all.1.2.2.2.1))
          all_goals
            obtain ⟨h2, hF2⟩ := HID.out.stJ hJ hf
            clear hJ hf hS2 d3 c3 c0
            go_wp2
            refine bodyPost_end (results_none rfl _ _ _) rfl ?_
            exact ⟨rfl, _, by rw [HX.out, HY.out]; exact ⟨HR.out.mono (by omega), T0, v, rfl, h2⟩, (Foot.of_below (Below.refl _ _).drew).trans hF2⟩
      · have HY : Hid (x.jamHeard = (x.setJ (x.J.heard wa)).tell 6 0 nilV) := by show _ = _; rw [HT.out, if_neg (by rw [ht]; decide)]
        rw [ht] at hhe
        clear ht HT
        cases iu
        all_goals
          go_enter Tryz.func48, Tryz.ntmps48
          go_wp2_with (go_at_call 80; refine hin.mono ?_; rintro e w1 ⟨rfl, hw1⟩; obtain rfl := hw1.symm; clear hw1)
          go_region_held (fun Y => Y.cell? ⟨P.b, 3, none⟩ = some (.pointer (some ⟨P.j, 0, none⟩))) (assumption)
            (first
            | (go_at_call 70; refine hwa.mono ?_; rintro e w1 ⟨rfl, hw1⟩; obtain rfl := hw1.symm; clear hw1)
            | (go_at_call 82; refine hhe.mono ?_; rintro e w2 ⟨rfl, hJ, hf⟩; have hS2 := (HID.out.stJ hJ hf).1.all.1.2.2.2.1))
          all_goals
            obtain ⟨h2, hF2⟩ := HID.out.stJ hJ hf
            have hte := tell_any P (x.setJ (x.J.heard wa)) 6 0 none 0 0 k w2 _ ⟨HR.out, T0, v, rfl, h2⟩
            have HF2 : Hid (Foot (setT P T0 v) (setT P T0 v) w w2) := (Foot.of_below (Below.refl _ _).drew).trans hF2
            clear hJ hf hS2 d3 c3 c0 h2 hF2
            go_wp2_with fail
            refine hte.mono ?_
            rintro e w5 ⟨rfl, T5, h5, hF5⟩
            go_wp2
            refine bodyPost_end (results_none rfl _ _ _) rfl ?_
            exact ⟨rfl, _, by rw [HX.out, HY.out]; exact h5, HF2.out.trans hF5⟩
    · have HX : Hid (x.heardLink 5 = x) := by show _ = _; rw [HZ.out, if_neg (fun e => hs e.2)]
      have ks : (x.s == 4) = false := by rw [beq_eq_false_iff_ne]; exact hs
      generalize hS : x.s = S at *
      clear HZ hr hi hs h4 k0 k1 k2 k3 k4 fo hS c3
      cases iu
      all_goals
        go_enter Tryz.func48, Tryz.ntmps48
        go_wp2_with (go_at_call 80; refine hin.mono ?_; rintro e w1 ⟨rfl, hw1⟩; obtain rfl := hw1.symm; clear hw1)
        refine bodyPost_end (results_none rfl _ _ _) rfl ?_
        exact ⟨rfl, _, by rw [HX.out]; exact HD.out.mono (by omega), Foot.refl _ _⟩
  · have HX : Hid (x.heardLink n = x) := by show _ = _; rw [HZ.out, if_neg (fun e => h5 e.1)]
    have k5 : (n == 5) = false := by rw [beq_eq_false_iff_ne]; exact h5
    clear HZ hr hi fo c3 c0 h4 h5
    cases iu
    all_goals
      go_enter Tryz.func48, Tryz.ntmps48
      go_wp2_with (go_at_call 80; refine hin.mono ?_; rintro e w1 ⟨rfl, hw1⟩; obtain rfl := hw1.symm; clear hw1)
      refine bodyPost_end (results_none rfl _ _ _) rfl ?_
      exact ⟨rfl, _, by rw [HX.out]; exact HD.out.mono (by omega), Foot.refl _ _⟩
end Go.Proofs.YtldjglmelbkngaaGreat.Tape
