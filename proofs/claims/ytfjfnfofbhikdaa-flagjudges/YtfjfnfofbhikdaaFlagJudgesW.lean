/- The walk of the law FlagJudges: it returns true and writes nothing that was there. -/
import Derived.Test.YtfjfnfofbhikdaaEar7
namespace Go.Proofs.Ytfjfnfofbhikdaa.Tape
open Go.ChangeShapes Go.WideShapes Go.ChangeAt Go.RowKit

theorem owns_set {w : World} {base : Nat} {e : TypeId} {g n cap : Nat} {vs : List Value} (h : w.ownsRow base e 1 (.slice (some ⟨g, 0, none⟩) n cap) n vs) (k : Nat) (v : Value) :
    (w.setCell ⟨g, k, none⟩ v).ownsRow base e 1 (.slice (some ⟨g, 0, none⟩) n cap) n (vs.set k v) := by
  rcases h.2 with ⟨h0, _⟩ | ⟨g', cap', cur, hv, hB, hg, h1, h2, h3, h4⟩
  · cases h0
  · simp only [Value.slice.injEq, Option.some.injEq, Addr.mk.injEq, and_true, true_and] at hv
    obtain ⟨rfl, rfl⟩ := hv
    have hs := row_set (cs := cur.toList) (by simpa using hg) k v
    refine ⟨by simpa using h.1, .inr ⟨g, cap, (cur.toList.set k v).toArray, rfl, hB, hs, h1, h2, by simpa using h3, ?_⟩⟩
    rw [← h4]
    simp [List.take_set]

theorem owns_cell {w : World} {base : Nat} {e : TypeId} {g n cap : Nat} {vs : List Value} (h : w.ownsRow base e 1 (.slice (some ⟨g, 0, none⟩) n cap) n vs) (k : Nat) (hk : k < vs.length) :
    w.cell? ⟨g, k, none⟩ = some vs[k] ∧ w.frozen? ⟨g, k, none⟩ = false ∧ base ≤ g := by
  rcases h.2 with ⟨h0, _⟩ | ⟨g', cap', cur, hv, hB, hg, h1, h2, h3, h4⟩
  · cases h0
  · simp only [Value.slice.injEq, Option.some.injEq, Addr.mk.injEq, and_true, true_and] at hv
    obtain ⟨rfl, rfl⟩ := hv
    have hc := h.cells rfl k vs[k] (by simp [hk])
    rw [Addr.add_lit] at hc
    refine ⟨by simpa using hc, ?_, hB⟩
    have hg' : w.heap[g]? = some (.cells cur.toList.toArray e (0, 0)) := by simpa using hg
    exact Lib.frozen_of_heap hg' k

theorem rem_in (n : Nat) (c : Int) (h : 0 < n) : ∃ H : Nat, c % (n : Int) = H ∧ H < n := by
  have h1 := Int.emod_lt_of_pos c (show (0 : Int) < n by omega)
  have h2 := Int.emod_nonneg c (show (n : Int) ≠ 0 by omega)
  exact ⟨(c % n).toNat, by omega, by omega⟩

set_option maxRecDepth 100000 in
set_option maxHeartbeats 2000000 in
theorem judges_walk (ao : Option Addr) (cap : Nat) (xs : List Int) (c : Int) (wh : Bool) (a d : Int) (w : World) (hr : Reads w ao (xs.map (.int .u8))) (hx : ∀ x ∈ xs, 0 ≤ x ∧ x ≤ 255) (hnil : ao = none → cap = 0) (wc : (Lit.int .u8 c).wf = true) (wa : (Lit.int .u16 a).wf = true) (wd : (Lit.int .u16 d).wf = true) :
    Calls Try.prog 4 #[.slice ao xs.length cap, .int .u8 c, .bool wh, .int .u16 a, .int .u16 d] w fun e w' => e = .returned (.bool true) ∧ Below w.heap.size w w' := by
  obtain ⟨c0, c1⟩ := bounds_u8 wc
  obtain ⟨a0, a1⟩ := bounds_u16 wa
  obtain ⟨d0, d1⟩ := bounds_u16 wd
  clear wc wa wd
  by_cases hlen : 100 < xs.length
  · go_enter Try.func4, Try.ntmps4
    go_wp2_with fail
    refine (awake5_any _).mono ?_
    rintro e w1 ⟨rfl, hb1⟩
    go_wp2_with fail
    refine (awake5_any _).mono ?_
    rintro e w2 ⟨rfl, hb2⟩
    go_wp2
    go_ret
    exact ⟨rfl, hb1.trans (hb2.mono hb1.size)⟩
  have h1 : xs.length ≤ 100 := by omega
  clear hlen
  go_enter Try.func4, Try.ntmps4
  go_wp2_with fail
  refine (awake5_any _).mono ?_
  rintro e w1 ⟨rfl, hb1⟩
  have hr1 := hr.below (Nat.le_refl _) hb1
  go_wp2_with fail
  refine (rbits_n _ _ _ _ _ rfl (by omega) hx hr1).mono ?_
  rintro e w2 ⟨v2, rfl, hown2, hb2⟩
  have hB2 := hb1.trans (hb2.mono hb1.size)
  have hr2 := hr1.below (Nat.le_refl _) hb2
  have hown2' := owns_lower hown2 hb1.size
  clear hr hr1 hown2 hb2
  cases wh
  · obtain ⟨bs0, hbs0⟩ : ∃ bs, bs = bits xs := ⟨_, rfl⟩
    have hL0 : (bits xs).length = 8 * xs.length := bits_len xs
    rw [← hbs0] at hL0 hown2'
    obtain ⟨M, hM⟩ : ∃ M, M = 8 * xs.length := ⟨_, rfl⟩
    rw [← hM] at hL0 hown2'
    have hM1 : M ≤ 2000 := by omega
    have HL0 : Hid (bs0.length = M) := hL0
    obtain ⟨vo, ca, rfl, -, -, hvo⟩ := owns_form hown2'
    have hown := hown2'
    have hB := hB2
    clear hbs0 hL0 hM hr2 hx hown2' hB2 hb1
    go_wp2_with fail
    go_loopw [12] (fun i wr => ∃ (I : Nat) (bs : List Bool), I ≤ 16 ∧ i = .int .i64 I ∧ bs.length = M ∧ wr.ownsRow w.heap.size 4 1 (.slice vo M ca) M (bs.map .bool) ∧ Below w.heap.size w wr) (fun i _ => 16 - (intOf i).toNat)
    case atStart => exact ⟨0, bs0, by omega, rfl, HL0.out, hown, hB⟩
    case round =>
      clear hown hB HL0
      obtain ⟨I, bs, hI, rfl, hbl, hown, hB⟩ := hrel
      by_cases hc : I < 16 ∧ 0 < M
      · obtain ⟨hI16, hM0⟩ := hc
        obtain ⟨g, rfl⟩ : ∃ g, vo = some ⟨g, 0, none⟩ := by
          rcases hvo with ⟨_, h, _⟩ | h
          · omega
          · exact h
        obtain ⟨q, hq, hqM⟩ := rem_in M (a + (I : Int)) hM0
        have hqb : q < bs.length := by omega
        have hlq : q < (bs.map Value.bool).length := by rw [List.length_map]; exact hqb
        obtain ⟨hcell, hfz, hBg⟩ := owns_cell hown q hlq
        rw [List.getElem_map] at hcell
        obtain ⟨z, hz⟩ : ∃ z, z = bs[q] := ⟨_, rfl⟩
        rw [← hz] at hcell
        have HO : Hid ((wr.setCell ⟨g, q, none⟩ (.bool !z)).ownsRow w.heap.size 4 1 (.slice (some ⟨g, 0, none⟩) M ca) M ((bs.set q !z).map .bool)) := by
          show World.ownsRow _ _ _ _ _ _ _
          rw [List.map_set]
          exact owns_set hown q (.bool !z)
        have HO0 : Hid (wr.ownsRow w.heap.size 4 1 (.slice (some ⟨g, 0, none⟩) M ca) M (bs.map .bool)) := hown
        have HBL : Hid (bs.length = M) := hbl
        have HS : Hid (Below w.heap.size w (wr.setCell ⟨g, q, none⟩ (.bool !z))) := hB.setCell (p := ⟨g, q, none⟩) hBg _
        obtain ⟨Y, hY⟩ : ∃ Y, ((d / 2 ^ I).tmod 2 == 1) = Y := ⟨_, rfl⟩
        clear hlq hqb hz hown hbl
        cases Y
        · go_wp2
          go_roundw
          case rel => exact ⟨I + 1, bs, by omega, by go_num, HBL.out, HO0.out, hB⟩
          case measure => simp [intOf]; omega
        · go_wp2
          go_roundw
          case rel => exact ⟨I + 1, bs.set q !z, by omega, by go_num, by rw [List.length_set]; exact HBL.out, HO.out, HS.out⟩
          case measure => simp [intOf]; omega
      · obtain ⟨H, hH, hHM⟩ := cut_at M c
        have hrd := (Reads.of_owns hown).take H
        rw [← List.map_take] at hrd
        have HTL : Hid ((bs.take H).length = H) := by show _ = _; rw [List.length_take]; omega
        obtain ⟨us, hus⟩ : ∃ us, us = bs.take H := ⟨_, rfl⟩
        rw [← hus] at hrd HTL
        obtain ⟨J, hJ⟩ : ∃ J, jdg us = J := ⟨_, rfl⟩
        have HJ : Hid (jdg us = J) := hJ
        have hMca : M ≤ ca := owns_cap hown
        have hHca : H ≤ ca := by omega
        clear hown hbl hus hJ
        rcases Nat.lt_or_ge I 16 with h16 | h16
        all_goals
          first | have hki : ¬ ((M : Int) > 0) := by omega
                | have hki : ¬ ((I : Int) < 16) := by omega
          clear hc
          go_wp2_with fail
          refine (judge_any _ _ _ us J _ HTL.out (by omega) HJ.out hrd).mono ?_
          obtain ⟨ys, E⟩ := J
          rintro e w4 ⟨vo4, m4, ca4, rfl, hm4, hmc4, hrb4, -, -, hb4⟩
          have HM4 : Hid (ys.length = m4) := hm4
          have hrd4 := hrd.below (Nat.le_refl _) hb4
          have hB4 := hB.trans (hb4.mono hB.size)
          clear hm4 hrd hb4
          go_wp2_with fail
          refine (rjudge_any _ _ _ us (ys, E) _ HTL.out (by omega) HJ.out hrd4).mono ?_
          rintro e w5 ⟨vo5, m5, ca5, rfl, hm5, hmc5, hrb5, -, -, hb5⟩
          have hc1 := conv_reads (cap := ca4) HM4.out (hrb4.below (Nat.le_refl _) hb5)
          have hc2 := conv_reads (cap := ca5) hm5 hrb5
          have hB5 := hB4.trans (hb5.mono hB4.size)
          clear hm5 hrb4 hrb5 hrd4 hb5 hB4
          simp only at hc1 hc2
          go_wp2
          go_ret
          exact ⟨rfl, hB5⟩
  · go_wp2_with fail
    refine (whole_any _ _ _ _ _ rfl (by omega) hx hnil hr2).mono ?_
    rintro e w3 ⟨v3, rfl, hown3, hb3⟩
    obtain ⟨vo3, ca3, rfl, -, hra3, -⟩ := owns_form hown3
    have hB3 := hB2.trans (hb3.mono hB2.size)
    have HWL : Hid ((xs ++ chk xs).length = xs.length + 2) := by show _ = _; rw [List.length_append]; rfl
    clear hown3 hown2' hr2 hb3 hB2 hb1
    go_wp2_with fail
    refine (rbits_n _ _ _ (xs ++ chk xs) _ HWL.out (by omega) (whole_range xs hx) hra3).mono ?_
    rintro e w4 ⟨v4, rfl, hown4, hb4⟩
    obtain ⟨vo4, ca4, rfl, -, hra4, -⟩ := owns_form hown4
    have hB4 := hB3.trans (hb4.mono hB3.size)
    have hL4 : (bits (xs ++ chk xs)).length = 8 * (xs.length + 2) := by rw [bits_len, HWL.out]
    obtain ⟨ks, hks⟩ : ∃ ks, ks = bits (xs ++ chk xs) := ⟨_, rfl⟩
    rw [← hks] at hL4 hra4
    have HL4 : Hid (ks.length = 8 * (xs.length + 2)) := hL4
    have hpl := put_len ks 0
    have hsz := sz_le ks 0 (by omega)
    obtain ⟨bs0, hbs0⟩ : ∃ bs, bs = put ks := ⟨_, rfl⟩
    have hpl' : bs0.length ≤ 2000 := by rw [hbs0]; show (putFrom ks 0).length ≤ _; omega
    have hrp := rput_any vo4 (8 * (xs.length + 2)) ca4 ks w4 HL4.out (by omega) hra4
    rw [← hbs0] at hrp
    obtain ⟨M, hM⟩ : ∃ M, bs0.length = M := ⟨_, rfl⟩
    rw [hM] at hrp
    have HL0 : Hid (bs0.length = M) := hM
    have hM1 : M ≤ 2000 := by omega
    clear hks hL4 hpl hsz hbs0 hpl' hM hown4 hra3 hra4 hb4 hB3
    go_wp2_with fail
    refine hrp.mono ?_
    rintro e w5 ⟨v5, rfl, hown5, hb5⟩
    have hB := hB4.trans (hb5.mono hB4.size)
    have hown := owns_lower hown5 hB4.size
    obtain ⟨vo, ca, rfl, -, -, hvo⟩ := owns_form hown
    clear hown5 hb5 hB4 hrp hx
    go_wp2_with fail
    go_loopw [12] (fun i wr => ∃ (I : Nat) (bs : List Bool), I ≤ 16 ∧ i = .int .i64 I ∧ bs.length = M ∧ wr.ownsRow w.heap.size 4 1 (.slice vo M ca) M (bs.map .bool) ∧ Below w.heap.size w wr) (fun i _ => 16 - (intOf i).toNat)
    case atStart => exact ⟨0, bs0, by omega, rfl, HL0.out, hown, hB⟩
    case round =>
      clear hown hB HL0
      obtain ⟨I, bs, hI, rfl, hbl, hown, hB⟩ := hrel
      by_cases hc : I < 16 ∧ 0 < M
      · obtain ⟨hI16, hM0⟩ := hc
        obtain ⟨g, rfl⟩ : ∃ g, vo = some ⟨g, 0, none⟩ := by
          rcases hvo with ⟨_, h, _⟩ | h
          · omega
          · exact h
        obtain ⟨q, hq, hqM⟩ := rem_in M (a + (I : Int)) hM0
        have hqb : q < bs.length := by omega
        have hlq : q < (bs.map Value.bool).length := by rw [List.length_map]; exact hqb
        obtain ⟨hcell, hfz, hBg⟩ := owns_cell hown q hlq
        rw [List.getElem_map] at hcell
        obtain ⟨z, hz⟩ : ∃ z, z = bs[q] := ⟨_, rfl⟩
        rw [← hz] at hcell
        have HO : Hid ((wr.setCell ⟨g, q, none⟩ (.bool !z)).ownsRow w.heap.size 4 1 (.slice (some ⟨g, 0, none⟩) M ca) M ((bs.set q !z).map .bool)) := by
          show World.ownsRow _ _ _ _ _ _ _
          rw [List.map_set]
          exact owns_set hown q (.bool !z)
        have HO0 : Hid (wr.ownsRow w.heap.size 4 1 (.slice (some ⟨g, 0, none⟩) M ca) M (bs.map .bool)) := hown
        have HBL : Hid (bs.length = M) := hbl
        have HS : Hid (Below w.heap.size w (wr.setCell ⟨g, q, none⟩ (.bool !z))) := hB.setCell (p := ⟨g, q, none⟩) hBg _
        obtain ⟨Y, hY⟩ : ∃ Y, ((d / 2 ^ I).tmod 2 == 1) = Y := ⟨_, rfl⟩
        clear hlq hqb hz hown hbl
        cases Y
        · go_wp2
          go_roundw
          case rel => exact ⟨I + 1, bs, by omega, by go_num, HBL.out, HO0.out, hB⟩
          case measure => simp [intOf]; omega
        · go_wp2
          go_roundw
          case rel => exact ⟨I + 1, bs.set q !z, by omega, by go_num, by rw [List.length_set]; exact HBL.out, HO.out, HS.out⟩
          case measure => simp [intOf]; omega
      · obtain ⟨H, hH, hHM⟩ := cut_at M c
        have hrd := (Reads.of_owns hown).take H
        rw [← List.map_take] at hrd
        have HTL : Hid ((bs.take H).length = H) := by show _ = _; rw [List.length_take]; omega
        obtain ⟨us, hus⟩ : ∃ us, us = bs.take H := ⟨_, rfl⟩
        rw [← hus] at hrd HTL
        obtain ⟨J, hJ⟩ : ∃ J, jdg us = J := ⟨_, rfl⟩
        have HJ : Hid (jdg us = J) := hJ
        have hMca : M ≤ ca := owns_cap hown
        have hHca : H ≤ ca := by omega
        clear hown hbl hus hJ
        rcases Nat.lt_or_ge I 16 with h16 | h16
        all_goals
          first | have hki : ¬ ((M : Int) > 0) := by omega
                | have hki : ¬ ((I : Int) < 16) := by omega
          clear hc
          go_wp2_with fail
          refine (judge_any _ _ _ us J _ HTL.out (by omega) HJ.out hrd).mono ?_
          obtain ⟨ys, E⟩ := J
          rintro e w4 ⟨vo4, m4, ca4, rfl, hm4, hmc4, hrb4, -, -, hb4⟩
          have HM4 : Hid (ys.length = m4) := hm4
          have hrd4 := hrd.below (Nat.le_refl _) hb4
          have hB4 := hB.trans (hb4.mono hB.size)
          clear hm4 hrd hb4
          go_wp2_with fail
          refine (rjudge_any _ _ _ us (ys, E) _ HTL.out (by omega) HJ.out hrd4).mono ?_
          rintro e w5 ⟨vo5, m5, ca5, rfl, hm5, hmc5, hrb5, -, -, hb5⟩
          have hc1 := conv_reads (cap := ca4) HM4.out (hrb4.below (Nat.le_refl _) hb5)
          have hc2 := conv_reads (cap := ca5) hm5 hrb5
          have hB5 := hB4.trans (hb5.mono hB4.size)
          clear hm5 hrb4 hrb5 hrd4 hb5 hB4
          simp only at hc1 hc2
          go_wp2
          go_ret
          exact ⟨rfl, hB5⟩
end Go.Proofs.Ytfjfnfofbhikdaa.Tape
