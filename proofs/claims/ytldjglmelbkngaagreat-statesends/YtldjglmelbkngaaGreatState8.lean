/- The contracts of a State's ranOutAligning, ranOut, Tick. -/
import Derived.Test.YtldjglmelbkngaaGreatState5
namespace Go.Proofs.YtldjglmelbkngaaGreat.Tape
open Go.ChangeShapes Go.WideShapes Go.ChangeAt Go.RowKit
set_option linter.unusedVariables false

theorem own_fail (x : St) (y : Int) : (x.fail y).own = x.own := by unfold St.fail; split <;> rfl
theorem own_failFor (x : St) (y : Int) : (x.failFor y).own = x.own := by
  unfold St.failFor
  split
  · rfl
  · exact own_fail x y

set_option maxRecDepth 100000 in
set_option maxHeartbeats 2000000 in
theorem ranAl_any (P : Pl) (x : St) (n : Int) : SC P 2 94 #[.pointer (some ⟨P.b, 0, none⟩), .int .i64 n] x (.tuple #[]) (x.ranAl n) := by
  intro k w T h
  obtain ⟨hr, T0, v, rfl, hi⟩ := h
  have hou := out_al P.a P.c x.A n w hi.al
  have HI : Hid (StIn w P T0 v x) := hi
  have HR : Hid (Room (k + 2) (x.setA (x.A.out n))) := Room.setA hr (hr.ra.out n)
  obtain ⟨⟨-, -, c2, -⟩, -⟩ := hi.all
  have HP : Hid (x.ranAl n = if x.A.proved n = true then ({ (x.setA (x.A.out n)).failFor (x.A.outWhy n) with s := if x.own = true then 3 else 2 } : St).start 1 else (x.setA (x.A.out n)).failFor (x.A.outWhy n)) := rfl
  generalize x.A.proved n = pr at *
  clear hi hr
  cases pr
  · go_enter Tryz.func94, Tryz.ntmps94
    go_wp2_with fail
    refine hou.mono ?_
    rintro e w1 ⟨rfl, hA, hf⟩
    obtain ⟨h1, hF1⟩ := HI.out.stA hA hf (t_out _ _)
    have hff := failFor_any P (x.setA (x.A.out n)) (x.A.outWhy n) k w1 _ ⟨HR.out, T0, v, rfl, h1⟩
    have HF1 : Hid (Foot (setT P T0 v) (setT P T0 v) w w1) := hF1
    clear hou hA hf h1 hF1 c2
    go_wp2_with fail
    refine hff.mono ?_
    rintro e w2 ⟨rfl, T2, h2, hF2⟩
    go_wp2
    refine bodyPost_ret (v := .tuple #[]) (by simp [results, Tryz.results94, go_sem]) rfl ?_
    exact ⟨rfl, _, by rw [HP.out]; exact h2, HF1.out.trans hF2⟩
  · go_enter Tryz.func94, Tryz.ntmps94
    go_wp2_with fail
    refine hou.mono ?_
    rintro e w1 ⟨rfl, hA, hf⟩
    obtain ⟨h1, hF1⟩ := HI.out.stA hA hf (t_out _ _)
    have hff := failFor_any P (x.setA (x.A.out n)) (x.A.outWhy n) k w1 _ ⟨HR.out, T0, v, rfl, h1⟩
    have HF1 : Hid (Foot (setT P T0 v) (setT P T0 v) w w1) := hF1
    have HO : Hid (((x.setA (x.A.out n)).failFor (x.A.outWhy n)).own = x.own) := own_failFor _ _
    generalize (x.setA (x.A.out n)).failFor (x.A.outWhy n) = y at *
    clear hou hA hf h1 hF1 c2
    go_wp2_with fail
    refine hff.mono ?_
    rintro e w2 ⟨rfl, T2, ⟨hr2, T02, v2, rfl, h2⟩, hF2⟩
    have HF2 : Hid (Foot (setT P T0 v) (setT P T02 v2) w w2) := HF1.out.trans hF2
    obtain ⟨⟨c0, -, -, -, -, c5, -⟩, z⟩ := h2.all
    have z0 := z 0
    have hlt := heap_lt h2.cells
    have h3 := h2.put { y with s := 2 } 0 (.int .u8 2) rfl rfl rfl rfl rfl rfl
    rw [HO.out] at c5
    have HR2 : Hid (Room k y) := hr2
    rcases (by decide : ∀ b : Bool, b = true ∨ b = false) x.own with ho | ho
    · rw [ho] at c5
      have h4 := h3.put { y with s := 3 } 0 (.int .u8 3) rfl rfl rfl rfl rfl rfl
      have HF4 : Hid (Foot (setT P T0 v) (setT P T02 v2) w ((w2.setCell ⟨P.b, 0, none⟩ (.int .u8 2)).setCell ⟨P.b, 0, none⟩ (.int .u8 3))) := (HF2.out.trans (Foot.put _ _ _)).trans (Foot.put _ _ _)
      have hst := startTimer_any P { y with s := 3 } 1 (.inl rfl) k _ _ ⟨HR2.out.at_s 3, T02, v2, rfl, h4⟩
      have HX : Hid (x.ranAl n = ({ y with s := 3 } : St).start 1) := by show _ = _; rw [HP.out, if_pos trivial, ho]; rfl
      clear hff h2 h3 h4 z hr2 hF2 HP ho
      go_wp2_with fail
      refine hst.mono ?_
      rintro e w5 ⟨rfl, T5, h5, hF5⟩
      go_wp2
      refine bodyPost_end (results_none rfl _ _ _) rfl ?_
      exact ⟨rfl, _, by rw [HX.out]; exact h5, HF4.out.trans hF5⟩
    · rw [ho] at c5
      have HF4 : Hid (Foot (setT P T0 v) (setT P T02 v2) w (w2.setCell ⟨P.b, 0, none⟩ (.int .u8 2))) := HF2.out.trans (Foot.put _ _ _)
      have hst := startTimer_any P { y with s := 2 } 1 (.inl rfl) k _ _ ⟨HR2.out.at_s 2, T02, v2, rfl, h3⟩
      have HX : Hid (x.ranAl n = ({ y with s := 2 } : St).start 1) := by show _ = _; rw [HP.out, if_pos trivial, ho]; rfl
      clear hff h2 h3 z hr2 hF2 HP ho
      go_wp2_with fail
      refine hst.mono ?_
      rintro e w5 ⟨rfl, T5, h5, hF5⟩
      go_wp2
      refine bodyPost_end (results_none rfl _ _ _) rfl ?_
      exact ⟨rfl, _, by rw [HX.out]; exact h5, HF4.out.trans hF5⟩

set_option maxRecDepth 100000 in
set_option maxHeartbeats 2000000 in
theorem ranOut_any (P : Pl) (x : St) (n : Int) : SC P 2 59 #[.pointer (some ⟨P.b, 0, none⟩), .int .i64 n] x (.tuple #[]) (x.ranOut n) := by
  intro k w T h
  have hin := inUse_any P x _ T w h
  have HD : Hid (StAt w P (k + 2) T x) := h
  obtain ⟨hr, T0, v, rfl, hi⟩ := h
  obtain ⟨⟨c0, -, -, c3, -⟩, -⟩ := hi.all
  have HP : Hid (x.ranOut n = if x.s = 0 then x else if x.s = 1 then x.ranAl n else if n = 1 ∧ x.inUse = false then x.fail 6 else if n = 7 ∧ x.s = 4 then x.fail 2 else (x.setJ (x.J.out n)).failFor (x.J.why n)) := rfl
  by_cases h0 : x.s = 0
  · rw [h0] at c0
    have HX : Hid (x.ranOut n = x) := by show _ = _; rw [HP.out, if_pos h0]
    clear hi hr h0 HP hin c3
    go_enter Tryz.func59, Tryz.ntmps59
    go_wp2
    refine bodyPost_end (results_none rfl _ _ _) rfl ?_
    exact ⟨rfl, _, by rw [HX.out]; exact HD.out.mono (by omega), Foot.refl _ _⟩
  by_cases h1 : x.s = 1
  · rw [h1] at c0
    have HX : Hid (x.ranOut n = x.ranAl n) := by show _ = _; rw [HP.out, if_neg h0, if_pos h1]
    have hra := ranAl_any P x n k w _ HD.out
    clear hi hr h0 h1 HP hin c3
    go_enter Tryz.func59, Tryz.ntmps59
    go_wp2_with fail
    refine hra.mono ?_
    rintro e w5 ⟨rfl, T5, h5, hF5⟩
    go_wp2
    refine bodyPost_end (results_none rfl _ _ _) rfl ?_
    exact ⟨rfl, _, by rw [HX.out]; exact h5, hF5⟩
  have k0 : (x.s == 0) = false := by rw [beq_eq_false_iff_ne]; exact h0
  have k1 : (x.s == 1) = false := by rw [beq_eq_false_iff_ne]; exact h1
  have HP : Hid (x.ranOut n = if n = 1 ∧ x.inUse = false then x.fail 6 else if n = 7 ∧ x.s = 4 then x.fail 2 else (x.setJ (x.J.out n)).failFor (x.J.why n)) := by show _ = _; rw [HP.out, if_neg h0, if_neg h1]
  have hout := out_ja P.j P.c x.J n w hi.ja
  have HI : Hid (StIn w P T0 v x) := hi
  have HR : Hid (Room (k + 2) (x.setJ (x.J.out n))) := hr.same rfl rfl rfl rfl rfl rfl
  have f6 := fail_any P x 6 k w _ HD.out
  have f2 := fail_any P x 2 k w _ HD.out
  clear hi hr h0 h1
  by_cases hn1 : n = 1
  · subst hn1
    generalize x.inUse = iu at *
    cases iu
    · have HX : Hid (x.ranOut 1 = x.fail 6) := by show _ = _; rw [HP.out]; simp
      clear HP hout f2 c3
      generalize x.s = S at *
      go_enter Tryz.func59, Tryz.ntmps59
      go_wp2_with (go_at_call 80; refine hin.mono ?_; rintro e w1 ⟨rfl, hw1⟩; obtain rfl := hw1.symm; clear hw1)
      refine f6.mono ?_
      rintro e w5 ⟨rfl, T5, h5, hF5⟩
      go_wp2
      refine bodyPost_end (results_none rfl _ _ _) rfl ?_
      exact ⟨rfl, _, by rw [HX.out]; exact h5, hF5⟩
    · have HX : Hid (x.ranOut 1 = (x.setJ (x.J.out 1)).failFor (x.J.why 1)) := by show _ = _; rw [HP.out]; simp
      clear HP f2 f6
      generalize hS : x.s = S at *
      clear hS
      go_enter Tryz.func59, Tryz.ntmps59
      go_wp2_with (go_at_call 80; refine hin.mono ?_; rintro e w1 ⟨rfl, hw1⟩; obtain rfl := hw1.symm; clear hw1)
      refine hout.mono ?_
      rintro e w2 ⟨rfl, hJ, hf⟩
      obtain ⟨h2, hF2⟩ := HI.out.stJ hJ hf
      have hff := failFor_any P (x.setJ (x.J.out 1)) (x.J.why 1) k w2 _ ⟨HR.out, T0, v, rfl, h2⟩
      have HF2 : Hid (Foot (setT P T0 v) (setT P T0 v) w w2) := hF2
      clear hout hJ hf h2 hF2 c3 hin c0
      go_wp2_with fail
      refine hff.mono ?_
      rintro e w5 ⟨rfl, T5, h5, hF5⟩
      go_wp2
      refine bodyPost_end (results_none rfl _ _ _) rfl ?_
      exact ⟨rfl, _, by rw [HX.out]; exact h5, HF2.out.trans hF5⟩
  · have n1 : (n == 1) = false := by rw [beq_eq_false_iff_ne]; exact hn1
    clear hin f6
    by_cases h74 : n = 7 ∧ x.s = 4
    · have HX : Hid (x.ranOut n = x.fail 2) := by show _ = _; rw [HP.out, if_neg (fun e => hn1 e.1), if_pos h74]
      obtain ⟨h7, h4⟩ := h74
      subst h7
      rw [h4] at c0
      clear HP hout c3 h4 hn1 n1 k0 k1
      go_enter Tryz.func59, Tryz.ntmps59
      go_wp2_with fail
      refine f2.mono ?_
      rintro e w5 ⟨rfl, T5, h5, hF5⟩
      go_wp2
      refine bodyPost_end (results_none rfl _ _ _) rfl ?_
      exact ⟨rfl, _, by rw [HX.out]; exact h5, hF5⟩
    · have HX : Hid (x.ranOut n = (x.setJ (x.J.out n)).failFor (x.J.why n)) := by show _ = _; rw [HP.out, if_neg (fun e => hn1 e.1), if_neg h74]
      have h74' : n ≠ 7 ∨ (n = 7 ∧ x.s ≠ 4) := by omega
      clear f2 HP hn1 h74
      rcases h74' with h7 | ⟨h7, h4⟩
      · have n7 : (n == 7) = false := by rw [beq_eq_false_iff_ne]; exact h7
        generalize hS : x.s = S at *
        clear hS h7
        go_enter Tryz.func59, Tryz.ntmps59
        go_wp2_with fail
        refine hout.mono ?_
        rintro e w2 ⟨rfl, hJ, hf⟩
        obtain ⟨h2, hF2⟩ := HI.out.stJ hJ hf
        have hff := failFor_any P (x.setJ (x.J.out n)) (x.J.why n) k w2 _ ⟨HR.out, T0, v, rfl, h2⟩
        have HF2 : Hid (Foot (setT P T0 v) (setT P T0 v) w w2) := hF2
        clear hout hJ hf h2 hF2 c3 c0
        go_wp2_with fail
        refine hff.mono ?_
        rintro e w5 ⟨rfl, T5, h5, hF5⟩
        go_wp2
        refine bodyPost_end (results_none rfl _ _ _) rfl ?_
        exact ⟨rfl, _, by rw [HX.out]; exact h5, HF2.out.trans hF5⟩
      · subst h7
        have k4 : (x.s == 4) = false := by rw [beq_eq_false_iff_ne]; exact h4
        generalize hS : x.s = S at *
        clear hS h4
        go_enter Tryz.func59, Tryz.ntmps59
        go_wp2_with fail
        refine hout.mono ?_
        rintro e w2 ⟨rfl, hJ, hf⟩
        obtain ⟨h2, hF2⟩ := HI.out.stJ hJ hf
        have hff := failFor_any P (x.setJ (x.J.out 7)) (x.J.why 7) k w2 _ ⟨HR.out, T0, v, rfl, h2⟩
        have HF2 : Hid (Foot (setT P T0 v) (setT P T0 v) w w2) := hF2
        clear hout hJ hf h2 hF2 c3 c0
        go_wp2_with fail
        refine hff.mono ?_
        rintro e w5 ⟨rfl, T5, h5, hF5⟩
        go_wp2
        refine bodyPost_end (results_none rfl _ _ _) rfl ?_
        exact ⟨rfl, _, by rw [HX.out]; exact h5, HF2.out.trans hF5⟩

/-- What ran out, one by one. -/
def St.runs (x : St) (l : List Nat) : St := l.foldl (fun y k => y.ranOut (k : Nat)) x

set_option maxRecDepth 100000 in
set_option maxHeartbeats 2000000 in
theorem tick_st (P : Pl) (x : St) : SC P 16 28 #[.pointer (some ⟨P.b, 0, none⟩)] x (.tuple #[]) x.tick := by
  intro k w T h
  obtain ⟨hr, T0, v, rfl, hi⟩ := h
  have hti := tick_any P.c x.A.xs w hi.al.clock
  have hl8 : (outs 0 x.A.xs).length ≤ 8 := by
    have := outs_len 0 x.A.xs
    have h8 := hi.al.clock.len
    omega
  have HE : Hid (x.tick = (x.setC (x.A.xs.map tk)).runs (outs 0 x.A.xs)) := rfl
  have HR : Hid (Room (k + 16) (x.setC (x.A.xs.map tk))) := hr.start _
  have HI : Hid (StIn w P T0 v x) := hi
  have HL : Hid (∀ g, setT P T0 v g → g < w.heap.size) := fun g hg => (hi.lt g hg).2
  obtain ⟨⟨-, c1, -⟩, -⟩ := hi.all
  generalize x.tick = R at *
  generalize hos : outs 0 x.A.xs = os at *
  obtain ⟨n, hn⟩ : ∃ n, n = os.length := ⟨_, rfl⟩
  rw [← hn] at hti hl8
  have HN : Hid (n = os.length) := hn
  clear hi hr hn hos
  go_enter Tryz.func28, Tryz.ntmps28
  go_wp2_with fail
  refine hti.mono ?_
  rintro e w1 ⟨tv, rfl, hown, hc, hg⟩
  obtain ⟨h1, hF1⟩ := HI.out.stK hc hg
  obtain ⟨ao, cap, rfl, -, hrd, -⟩ := owns_form hown
  have hli := owns_lies hown
  have hs1 := hg.size
  have HA : Hid (∀ T1 (wr : World), Foot (setT P T0 v) T1 w1 wr → Reads wr ao (nums os)) := fun T1 wr hf => fun j u hj => by
    obtain ⟨g, off, e, hcell⟩ := hrd j u hj
    refine ⟨g, off, e, ?_⟩
    have hl := hli _ e
    exact (World.cell?_of_block (a := ⟨g, off + j, none⟩) (hf.block g hl.2 (fun ht => by have := HL.out g ht; have := hl.1; simp only at this; omega))).trans hcell
  have HS : Hid (StAt w1 P (k + 16) (setT P T0 v) (x.setC (x.A.xs.map tk))) := ⟨HR.out, T0, v, rfl, h1⟩
  have HF1 : Hid (Foot (setT P T0 v) (setT P T0 v) w w1) := hF1
  clear hti hown hc hg h1 hF1 hrd hli HI HR HL c1
  generalize x.setC (x.A.xs.map tk) = y at *
  go_wp2
  go_loopw [12] (fun i wr => ∃ (j : Nat) (T1 : Nat → Prop), j ≤ n ∧ i = .int .i64 j ∧ StAt wr P (k + 2 * (8 - j)) T1 (y.runs (os.take j)) ∧ Foot (setT P T0 v) T1 w1 wr) (fun i _ => n - (intOf i).toNat)
  case atStart => exact ⟨0, setT P T0 v, by omega, rfl, HS.out, Foot.refl _ _⟩
  case round =>
    obtain ⟨j, T1, hj, rfl, hs, hf⟩ := hrel
    by_cases hlt : j < n
    · have hjl : j < os.length := by have := HN.out; omega
      obtain ⟨g, off, rfl, hcell⟩ := (HA.out T1 wr hf) j (.int .i64 os[j]) (by simp [nums, hjl])
      have hro := ranOut_any P (y.runs (os.take j)) (os[j] : Nat) (k + 2 * (8 - (j + 1))) wr T1 (hs.mono (by omega))
      have HT : Hid ((y.runs (os.take j)).ranOut (os[j] : Nat) = y.runs (os.take (j + 1))) := by
        show _ = _
        rw [St.runs, St.runs, List.take_add_one, List.getElem?_eq_getElem hjl, List.foldl_append]
        rfl
      generalize ((os[j] : Nat) : Int) = z at *
      generalize y.runs (os.take j) = yj at *
      have HFJ : Hid (Foot (setT P T0 v) T1 w1 wr) := hf
      clear hs hf
      go_wp2_with (go_at_call 59; refine hro.mono ?_; rintro e w3 ⟨rfl, T3, h3, hF3⟩)
      go_roundw
      case rel => exact ⟨j + 1, T3, by omega, by go_num, by rw [← HT.out]; exact h3, HFJ.out.trans hF3⟩
      case measure => simp [intOf]; omega
    · have hjn : os.take j = os := List.take_of_length_le (by have := HN.out; omega)
      rw [hjn] at hs
      have HSX : Hid (StAt wr P k T1 (y.runs os)) := hs.mono (by omega)
      have HFX : Hid (Foot (setT P T0 v) T1 w1 wr) := hf
      clear hs hf
      go_wp2
      refine bodyPost_end (results_none rfl _ _ _) rfl ?_
      exact ⟨rfl, _, by rw [HE.out]; exact HSX.out, HF1.out.trans HFX.out⟩
end Go.Proofs.YtldjglmelbkngaaGreat.Tape
