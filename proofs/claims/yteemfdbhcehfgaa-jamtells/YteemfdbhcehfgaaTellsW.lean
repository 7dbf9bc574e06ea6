/- The walk of the law JamTells. -/
import Derived.Test.YteemfdbhcehfgaaTells1
import Derived.Deep.CutBlock
namespace Go.Proofs.Yteemfdbhcehfgaa.Tape
open Go.ChangeShapes Go.WideShapes Go.ChangeAt Go.RowKit
set_option linter.unusedVariables false

set_option maxRecDepth 100000 in
set_option maxHeartbeats 2000000 in
theorem tells_walk (x y : Int) (w : World) (hx : 0 ≤ x ∧ x ≤ 255) (hy : 0 ≤ y ∧ y ≤ 255) :
    Calls Try.prog 7 #[.int .u8 x, .int .u8 y] w fun e w' => e = .returned (.bool true) ∧ Below w.heap.size w w' := by
  have haw := awake16_any w
  obtain ⟨m, hm⟩ : ∃ m : Nat, x.tmod 30 = (m : Int) := ⟨(x % 30).toNat, by rw [Int.tmod_eq_emod_of_nonneg hx.1]; omega⟩
  have hm30 : m < 30 := by have := hm; rw [Int.tmod_eq_emod_of_nonneg hx.1] at this; omega
  obtain ⟨p, hp⟩ : ∃ p : Nat, p = 1 + m := ⟨_, rfl⟩
  have hpi : (1 : Int) + (m : Int) = (p : Int) := by omega
  have hp1 : 1 ≤ p ∧ p ≤ 30 := by omega
  obtain ⟨q, rfl⟩ : ∃ q : Nat, y = (q : Int) := ⟨y.toNat, by omega⟩
  obtain ⟨x0, x1⟩ := hx
  obtain ⟨y0, y1⟩ := hy
  clear hp hm30
  go_enter Try.func7, Try.ntmps7
  go_wp2_with (go_at_call 15; refine haw.mono ?_; rintro e w1 ⟨rfl, hB1⟩)
  refine (usual_any false _).mono ?_
  rintro e w2 ⟨rfl, hU⟩
  have hB2 := hB1.trans (hU.mono hB1.size)
  clear haw hU hB1
  go_wp2_with fail
  obtain ⟨hBW, hcW, hsW, hsz⟩ := set_clock hB2 (tJ p)
  obtain ⟨W, hW⟩ : ∃ W, W = ((w2.alloc (.cells (setC (tJ p)) 35)).alloc (.cells #[.int .i64 0, .int .i64 0, .int .i64 0, .int .i64 0, .int .i64 0, .int .i64 0, .int .i64 0, .int .i64 0] 39)) := ⟨_, rfl⟩
  rw [← hW] at hBW hcW hsW
  have hnw := janew_any (w2.heap.size + 1) false 8 300 16 600 (tJ p) (List.replicate 8 0) W hcW (tJ_ok p (by omega))
  rw [show (Value.int IntKind.i64 (p : Int)) = Value.int IntKind.i64 (tJ p 5) from rfl]
  have HW : Hid (Below w.heap.size w W ∧ W.heap[w2.heap.size]? = some (.cells (setC (tJ p)) 35 (0, 0)) ∧ w.heap.size ≤ w2.heap.size ∧ w2.heap.size + 1 < W.heap.size) := ⟨hBW, hsW, hsz, hcW.lt⟩
  clear hB2 hBW hcW hsW hsz
  subst hW
  refine hnw.mono ?_
  rintro e w3 ⟨b, rfl, hb, hJ3, hB3⟩
  have HC : Hid (w.heap.size ≤ b ∧ w.heap.size ≤ w2.heap.size + 1 ∧ w2.heap.size ≠ b ∧ w2.heap.size ≠ w2.heap.size + 1) := by
    have h := HW.out
    have := h.1.size
    exact ⟨by omega, by omega, by omega, by omega⟩
  have HK3 : Hid (Ke w w3 w2.heap.size (tJ p)) := Ke.below (w1 := _) ⟨HW.out.1, HW.out.2.1⟩ hB3
  clear hnw hb hB3 HW
  have hbe := begin_ja b _ _ w3 hJ3
  rw [stJ_new] at hbe
  clear hJ3
  go_wp2_with fail
  refine hbe.mono ?_
  rintro e w4 ⟨rfl, hJ4, hF4⟩
  have hK4 : Ke w w4 w2.heap.size (tJ p) := HK3.out.fr hF4 HC.out
  clear hbe hF4 HK3
  generalize w2.heap.size + 1 = c at *
  generalize w2.heap.size = s at *
  have HP : Hid (1 ≤ p) := hp1.1
  go_wp2_with fail
  go_loopw [8, 9] (fun n idx wr => ∃ i : Nat, i ≤ q ∧ n = .int .i64 (cntJ p i) ∧ idx = .int .i64 i ∧ JamAt wr b c (stJ p i) ∧ Ke w wr s (tJ p)) (fun _ idx _ => q - (intOf idx).toNat)
  case atStart => exact ⟨0, by omega, by unfold cntJ; simp, rfl, hJ4, hK4⟩
  case round =>
    clear hJ4 hK4
    obtain ⟨i, hi, rfl, rfl, hJ, hK⟩ := hrel
    have hcl : cntJ p i ≤ i := cntJ_le HP.out
    by_cases hlt : i < q
    · have HK : Hid (Ke w wr s (tJ p)) := hK
      clear hK
      by_cases hd : i % p = 0
      · have HD : Hid ((if i % p = 0 then 1 else 0) = 1) := if_pos hd
        rcases mod_up (i := i) HP.out with ⟨hm, -⟩ | ⟨hm, -⟩
        · as_aux_lemma =>
            have hdu := due_ja b c _ wr hJ
            rw [show (stJ p i).due = true by unfold stJ; simp [hd]] at hdu
            go_wp2_with fail
            refine hdu.mono ?_
            rintro e w5 ⟨rfl, hJ5, hF5⟩
            have hK5 := HK.out.fr hF5 HC.out
            clear hdu hF5 hJ HK
            have htk := tick_ja b c _ w5 hJ5
            clear hJ5
            go_wp2_with fail
            refine htk.mono ?_
            rintro e w6 ⟨ao, cap, rfl, hr6, hl6, hJ6, hF6⟩
            have hK6 := hK5.fr hF6 HC.out
            obtain ⟨eo, ej⟩ := stJ_out hm (by omega : 1 ≤ p)
            rw [eo] at hr6 ⊢
            have HE : Hid ((stJ p i).told.tick.out 5 = stJ p (i + 1)) := ej
            obtain ⟨g, off, rfl, hcell⟩ := hr6 0 (.int .i64 5) rfl
            rw [Nat.add_zero] at hcell
            clear htk eo ej hK5 hF6 hr6 hl6
            go_wp2_with fail
            go_loopw [11] (fun kk wx => (kk = .int .i64 (0 : Int) ∧ JamAt wx b c (stJ p i).told.tick ∧ Ke w wx s (tJ p) ∧ wx.cell? ⟨g, off, none⟩ = some (.int .i64 5)) ∨ (kk = .int .i64 (1 : Int) ∧ JamAt wx b c (stJ p (i + 1)) ∧ Ke w wx s (tJ p))) (fun kk _ => 1 - (intOf kk).toNat)
            case atStart => exact .inl ⟨rfl, hJ6, hK6, hcell⟩
            case round =>
              clear hJ6 hK6 hcell
              rcases hrel with ⟨rfl, hJ6, hK6, hcell⟩ | ⟨rfl, hJ6, hK6⟩
              · have hou := out_ja b c _ 5 _ hJ6
                rw [HE.out] at hou
                clear hJ6
                go_wp2_with (go_at_call 25; refine hou.mono ?_; rintro e w7 ⟨rfl, hJ7, hF7⟩; have hK7 := hK6.fr hF7 HC.out; clear hou hF7 hK6 hcell)
                go_roundw
                case rel => exact .inr ⟨rfl, hJ7, hK7⟩
                case measure => simp [intOf]
              · go_wp2
                go_roundw
                case rel => exact ⟨i + 1, by omega, by rw [cntJ_up HP.out, HD.out]; go_num, by go_num, hJ6, hK6⟩
                case measure => simp [intOf]; omega
        · as_aux_lemma =>
            have hdu := due_ja b c _ wr hJ
            rw [show (stJ p i).due = true by unfold stJ; simp [hd]] at hdu
            go_wp2_with fail
            refine hdu.mono ?_
            rintro e w5 ⟨rfl, hJ5, hF5⟩
            have hK5 := HK.out.fr hF5 HC.out
            clear hdu hF5 hJ HK
            have htk := tick_ja b c _ w5 hJ5
            clear hJ5
            go_wp2_with fail
            refine htk.mono ?_
            rintro e w6 ⟨ao, cap, rfl, hr6, hl6, hJ6, hF6⟩
            have hK6 := hK5.fr hF6 HC.out
            obtain ⟨eo, ej⟩ := stJ_on hm (by omega : 1 ≤ p)
            rw [eo] at hr6 ⊢
            rw [ej] at hJ6
            clear htk eo ej hK5 hF6 hr6 hl6
            go_wp2_with fail
            go_loopw [11] (fun kk wx => kk = .int .i64 (0 : Int) ∧ JamAt wx b c (stJ p (i + 1)) ∧ Ke w wx s (tJ p)) (fun _ _ => 0)
            case atStart => exact ⟨rfl, hJ6, hK6⟩
            case round =>
              clear hJ6 hK6
              obtain ⟨rfl, hJ6, hK6⟩ := hrel
              go_wp2
              go_roundw
              case rel => exact ⟨i + 1, by omega, by rw [cntJ_up HP.out, HD.out]; go_num, by go_num, hJ6, hK6⟩
              case measure => simp [intOf]; omega
      · have HD : Hid ((if i % p = 0 then 1 else 0) = 0) := if_neg hd
        rcases mod_up (i := i) HP.out with ⟨hm, -⟩ | ⟨hm, -⟩
        · as_aux_lemma =>
            have hdu := due_ja b c _ wr hJ
            rw [show (stJ p i).due = false by unfold stJ; simp [hd]] at hdu
            go_wp2_with fail
            refine hdu.mono ?_
            rintro e w5 ⟨rfl, hJ5, hF5⟩
            have hK5 := HK.out.fr hF5 HC.out
            clear hdu hF5 hJ HK
            have htk := tick_ja b c _ w5 hJ5
            clear hJ5
            go_wp2_with fail
            refine htk.mono ?_
            rintro e w6 ⟨ao, cap, rfl, hr6, hl6, hJ6, hF6⟩
            have hK6 := hK5.fr hF6 HC.out
            obtain ⟨eo, ej⟩ := stJ_out hm (by omega : 1 ≤ p)
            rw [eo] at hr6 ⊢
            have HE : Hid ((stJ p i).told.tick.out 5 = stJ p (i + 1)) := ej
            obtain ⟨g, off, rfl, hcell⟩ := hr6 0 (.int .i64 5) rfl
            rw [Nat.add_zero] at hcell
            clear htk eo ej hK5 hF6 hr6 hl6
            go_wp2_with fail
            go_loopw [11] (fun kk wx => (kk = .int .i64 (0 : Int) ∧ JamAt wx b c (stJ p i).told.tick ∧ Ke w wx s (tJ p) ∧ wx.cell? ⟨g, off, none⟩ = some (.int .i64 5)) ∨ (kk = .int .i64 (1 : Int) ∧ JamAt wx b c (stJ p (i + 1)) ∧ Ke w wx s (tJ p))) (fun kk _ => 1 - (intOf kk).toNat)
            case atStart => exact .inl ⟨rfl, hJ6, hK6, hcell⟩
            case round =>
              clear hJ6 hK6 hcell
              rcases hrel with ⟨rfl, hJ6, hK6, hcell⟩ | ⟨rfl, hJ6, hK6⟩
              · have hou := out_ja b c _ 5 _ hJ6
                rw [HE.out] at hou
                clear hJ6
                go_wp2_with (go_at_call 25; refine hou.mono ?_; rintro e w7 ⟨rfl, hJ7, hF7⟩; have hK7 := hK6.fr hF7 HC.out; clear hou hF7 hK6 hcell)
                go_roundw
                case rel => exact .inr ⟨rfl, hJ7, hK7⟩
                case measure => simp [intOf]
              · go_wp2
                go_roundw
                case rel => exact ⟨i + 1, by omega, by rw [cntJ_up HP.out, HD.out]; go_num, by go_num, hJ6, hK6⟩
                case measure => simp [intOf]; omega
        · as_aux_lemma =>
            have hdu := due_ja b c _ wr hJ
            rw [show (stJ p i).due = false by unfold stJ; simp [hd]] at hdu
            go_wp2_with fail
            refine hdu.mono ?_
            rintro e w5 ⟨rfl, hJ5, hF5⟩
            have hK5 := HK.out.fr hF5 HC.out
            clear hdu hF5 hJ HK
            have htk := tick_ja b c _ w5 hJ5
            clear hJ5
            go_wp2_with fail
            refine htk.mono ?_
            rintro e w6 ⟨ao, cap, rfl, hr6, hl6, hJ6, hF6⟩
            have hK6 := hK5.fr hF6 HC.out
            obtain ⟨eo, ej⟩ := stJ_on hm (by omega : 1 ≤ p)
            rw [eo] at hr6 ⊢
            rw [ej] at hJ6
            clear htk eo ej hK5 hF6 hr6 hl6
            go_wp2_with fail
            go_loopw [11] (fun kk wx => kk = .int .i64 (0 : Int) ∧ JamAt wx b c (stJ p (i + 1)) ∧ Ke w wx s (tJ p)) (fun _ _ => 0)
            case atStart => exact ⟨rfl, hJ6, hK6⟩
            case round =>
              clear hJ6 hK6
              obtain ⟨rfl, hJ6, hK6⟩ := hrel
              go_wp2
              go_roundw
              case rel => exact ⟨i + 1, by omega, by rw [cntJ_up HP.out, HD.out]; go_num, by go_num, hJ6, hK6⟩
              case measure => simp [intOf]; omega
    · obtain rfl : i = q := by omega
      rcases Nat.eq_zero_or_pos i with h0 | h0
      · subst h0
        rw [show cntJ p 0 = 0 by unfold cntJ; simp]
        go_wp2
        go_ret
        exact ⟨rfl, hK.1⟩
      · obtain ⟨j, rfl⟩ : ∃ j, i = j + 1 := ⟨i - 1, by omega⟩
        obtain ⟨d10, -⟩ := set_cell hK.2
        rw [show tJ p 5 = (p : Int) from rfl] at d10
        have e1 : (((j + 1 : Nat) : Int) - 1) = (j : Int) := by omega
        have e2 : ((j : Int)).tdiv (p : Int) = ((j / p : Nat) : Int) := by rw [Int.tdiv_eq_ediv_of_nonneg (by omega)]; rfl
        have e0 : (((j + 1 : Nat) : Int) == 0) = false := by rw [beq_eq_false_iff_ne]; omega
        have hce := cntJ_end (i := j) HP.out
        have hjp : j / p ≤ j := Nat.div_le_self _ _
        rw [hce]
        clear hce hcl
        generalize j / p = r at *
        go_wp2
        go_ret
        exact ⟨ret_bool (by simp), hK.1⟩
end Go.Proofs.Yteemfdbhcehfgaa.Tape
