/- The walk of the law JamBound. -/
import Derived.Test.YteemfdbhcehfgaaBound1
import Derived.Deep.CutBlock
namespace Go.Proofs.Yteemfdbhcehfgaa.Tape
open Go.ChangeShapes Go.WideShapes Go.ChangeAt Go.RowKit
set_option linter.unusedVariables false

set_option maxRecDepth 100000 in
set_option maxHeartbeats 2000000 in
theorem bound_walk (x y : Int) (w : World) (hx : 0 ≤ x ∧ x ≤ 255) (hy : 0 ≤ y ∧ y ≤ 255) :
    Calls Try.prog 9 #[.int .u8 x, .int .u8 y] w fun e w' => e = .returned (.bool true) ∧ Below w.heap.size w w' := by
  have haw := awake16_any w
  obtain ⟨m, hm⟩ : ∃ m : Nat, y.tmod 50 = (m : Int) := ⟨(y % 50).toNat, by rw [Int.tmod_eq_emod_of_nonneg hy.1]; omega⟩
  have hm50 : m < 50 := by have := hm; rw [Int.tmod_eq_emod_of_nonneg hy.1] at this; omega
  obtain ⟨p, hp⟩ : ∃ p : Nat, p = 10 + m := ⟨_, rfl⟩
  have hpi : (10 : Int) + (m : Int) = (p : Int) := by omega
  have hp1 : 10 ≤ p ∧ p ≤ 59 := by omega
  obtain ⟨n, hn⟩ : ∃ n : Nat, x.tmod 20 = (n : Int) := ⟨(x % 20).toNat, by rw [Int.tmod_eq_emod_of_nonneg hx.1]; omega⟩
  have hn20 : n < 20 := by have := hn; rw [Int.tmod_eq_emod_of_nonneg hx.1] at this; omega
  obtain ⟨K, hK⟩ : ∃ K : Nat, K = 1 + n := ⟨_, rfl⟩
  have hKi : (1 : Int) + (n : Int) = (K : Int) := by omega
  have hK1 : 1 ≤ K ∧ K ≤ 20 := by omega
  obtain ⟨x0, x1⟩ := hx
  obtain ⟨y0, y1⟩ := hy
  clear hp hm50 hK hn20
  go_enter Try.func9, Try.ntmps9
  go_wp2_with (go_at_call 15; refine haw.mono ?_; rintro e w1 ⟨rfl, hB1⟩)
  refine (usual_any false _).mono ?_
  rintro e w2 ⟨rfl, hU⟩
  have hB2 := hB1.trans (hU.mono hB1.size)
  clear haw hU hB1
  go_wp2_with fail
  obtain ⟨hBW, hcW, hsW, hsz⟩ := set_clock hB2 (tB p)
  obtain ⟨W, hW⟩ : ∃ W, W = ((w2.alloc (.cells (setC (tB p)) 35)).alloc (.cells #[.int .i64 0, .int .i64 0, .int .i64 0, .int .i64 0, .int .i64 0, .int .i64 0, .int .i64 0, .int .i64 0] 39)) := ⟨_, rfl⟩
  rw [← hW] at hBW hcW hsW
  have hnw := janew_any (w2.heap.size + 1) false 8 300 16 600 (tB p) (List.replicate 8 0) W hcW (tB_ok p (by omega))
  have HW : Hid (Below w.heap.size w W ∧ W.heap[w2.heap.size]? = some (.cells (setC (tB p)) 35 (0, 0)) ∧ w.heap.size ≤ w2.heap.size ∧ w2.heap.size + 1 < W.heap.size) := ⟨hBW, hsW, hsz, hcW.lt⟩
  clear hB2 hBW hcW hsW hsz
  subst hW
  refine hnw.mono ?_
  rintro e w3 ⟨b, rfl, hb, hJ3, hB3⟩
  have HC : Hid (w.heap.size ≤ b ∧ w.heap.size ≤ w2.heap.size + 1 ∧ w2.heap.size ≠ b ∧ w2.heap.size ≠ w2.heap.size + 1) := by
    have h := HW.out
    have := h.1.size
    exact ⟨by omega, by omega, by omega, by omega⟩
  have hK3 : Ke w w3 w2.heap.size (tB p) := Ke.below (w1 := _) ⟨HW.out.1, HW.out.2.1⟩ hB3
  clear hnw hb hB3 HW
  generalize w2.heap.size + 1 = c at *
  generalize w2.heap.size = s at *
  go_wp2_with fail
  go_loopw [9] (fun idx wr => ∃ (i : Nat) (J : Ja), i < p ∧ idx = .int .i64 i ∧ JamAt wr b c J ∧ Ke w wr s (tB p) ∧ AtB p i J) (fun idx _ => p - (intOf idx).toNat)
  case atStart => exact ⟨0, _, by omega, rfl, hJ3, hK3, .inl ⟨rfl, rfl⟩⟩
  case round =>
    clear hJ3 hK3
    obtain ⟨i, J, hi, rfl, hJ, hK, hA⟩ := hrel
    have HA : Hid (AtB p i J) := hA
    have HJK : Hid (JamAt wr b c J ∧ Ke w wr s (tB p)) := ⟨hJ, hK⟩
    clear hA hJ hK
    have e200 : decide ((i : Int) < 200) = true := by rw [decide_eq_true_iff]; omega
    obtain ⟨r, hr⟩ : ∃ r : Nat, (i : Int).tmod (K : Int) = (r : Int) := ⟨i % K, by rw [Int.tmod_eq_emod_of_nonneg (by omega)]; rfl⟩
    have hk0 : ¬ (K : Int) = 0 := by omega
    have HI : Hid (i % K = r) := by show _ = _; have := hr; rw [Int.tmod_eq_emod_of_nonneg (by omega)] at this; omega
    go_upto_if 41 with fail
    go_cut [] from 36 to 44 (fun wc => ∃ z : Int, JamAt wc b c (stB p i z) ∧ Ke w wc s (tB p) ∧ Hid (9999 - (i : Int) ≤ z ∧ z ≤ 9999))
    case first =>
      as_aux_lemma =>
        rcases Nat.eq_zero_or_pos r with h0 | h0
        · subst h0
          have hhe := heard_ja b c J true wr HJK.out.1
          rw [HA.out.heard] at hhe
          clear hr
          go_wp2_with (go_at_call 21; refine hhe.mono ?_; rintro e w5 ⟨rfl, hJ5, hF5⟩; have hK5 := HJK.out.2.fr hF5 HC.out; clear hhe hF5)
          go_meet
          case rel => exact ⟨9999, hJ5, hK5, ⟨by omega, by omega⟩⟩
        · have hr0 : ¬ (r : Int) = 0 := by omega
          have HX : Hid (∃ z : Int, J = stB p i z ∧ 9999 - (i : Int) ≤ z ∧ z ≤ 9999) := by
            rcases HA.out with ⟨rfl, _⟩ | ⟨_, h⟩
            · have := HI.out; rw [Nat.zero_mod] at this; omega
            · exact h
          clear hr
          go_wp2
          go_meet
          case rel =>
            obtain ⟨z, rfl, hz⟩ := HX.out
            exact ⟨z, HJK.out.1, HJK.out.2, hz⟩
    case rest =>
      clear HJK HA HI hr hk0 J r
      obtain ⟨z, hJ, hK, HZ⟩ := hcut
      have htk := tick_ja b c _ wc hJ
      clear hJ
      go_wp2_with fail
      refine htk.mono ?_
      rintro e w6 ⟨ao, cap, rfl, hr6, hl6, hJ6, hF6⟩
      have hK6 := hK.fr hF6 HC.out
      clear htk hF6 hK hl6
      rcases Nat.lt_or_ge (i + 1) p with hip | hip
      · obtain ⟨eo, ej⟩ := stB_on hip (by omega) HZ.out
        rw [eo] at hr6 ⊢
        have HN : Hid (AtB p (i + 1) (stB p i z).tick) := ej
        generalize (stB p i z).tick = J at *
        clear eo hr6 ej HZ
        go_wp2_with fail
        go_loopw [11] (fun kk wx => kk = .int .i64 (0 : Int) ∧ JamAt wx b c J ∧ Ke w wx s (tB p)) (fun _ _ => 0)
        case atStart => exact ⟨rfl, hJ6, hK6⟩
        case round =>
          clear hJ6 hK6
          obtain ⟨rfl, hJ6, hK6⟩ := hrel
          go_wp2
          go_roundw
          case rel => exact ⟨i + 1, J, by omega, by go_num, hJ6, hK6, HN.out⟩
          case measure => simp [intOf]; omega
      · have hip2 : i + 1 = p := by omega
        obtain ⟨eo, ew⟩ := stB_out hip2 (by omega) HZ.out
        rw [eo] at hr6 ⊢
        obtain ⟨g, off, rfl, hcell⟩ := hr6 0 (.int .i64 6) rfl
        rw [Nat.add_zero] at hcell
        have hip3 : (i : Int) + 1 = (p : Int) := by omega
        have HE : Hid ((stB p i z).tick.why 6 = 3) := ew
        generalize (stB p i z).tick = J at *
        clear eo hr6 ew HZ hip hip2
        go_wp2_with fail
        go_loopw [11] (fun kk wx => kk = .int .i64 (0 : Int) ∧ JamAt wx b c J ∧ Ke w wx s (tB p) ∧ wx.cell? ⟨g, off, none⟩ = some (.int .i64 6)) (fun _ _ => 0)
        case atStart => exact ⟨rfl, hJ6, hK6, hcell⟩
        case round =>
          clear hJ6 hK6 hcell
          obtain ⟨rfl, hJ6, hK6, hcell⟩ := hrel
          have hou := out_ja b c J 6 _ hJ6
          rw [HE.out] at hou
          clear hJ6
          go_wp2_with (go_at_call 25; refine hou.mono ?_; rintro e w7 ⟨rfl, hJ7, hF7⟩; have hK7 := hK6.fr hF7 HC.out; obtain ⟨-, d11⟩ := set_cell hK7.2; rw [show tB p 6 = (p : Int) from rfl] at d11; clear hou hF7 hK6 hcell)
          go_ret
          exact ⟨rfl, hK7.1⟩
end Go.Proofs.Yteemfdbhcehfgaa.Tape
