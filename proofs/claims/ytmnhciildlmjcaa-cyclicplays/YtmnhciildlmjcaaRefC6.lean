/- The reference's again of a cyclic way, where nothing waits, and where a new one goes. -/
import Derived.Test.YtmnhciildlmjcaaRefC5
namespace Go.Proofs.Ytmnhciildlmjcaa.Tape
open Go.ChangeShapes Go.WideShapes Go.ChangeAt Go.RowKit
set_option linter.unusedVariables false

theorem AG.bk {w Y : World} {lo : Option Addr} {n cap : Nat} {a f m o : Int} {t : Cs} (h : AG w Y (.slice lo n cap) a f m o t) : BK w Y w.heap.size (sideC (.slice lo n cap) a f m o (tlC t)) :=
  ⟨h.low, h.s0, h.s1, h.s2, by omega, by omega, rfl, sideC_one _ _ _ _ _ _ _ _⟩

attribute [local go_sem ↓] ldS_def stS_def ldU_def stU_def

set_option maxRecDepth 100000 in
set_option maxHeartbeats 4000000 in
theorem ragain_f1 {w : World} {B : Nat} {lo : Option Addr} {n cap : Nat} (s : Hs) (t : Cs) (m o : Int) (hr : PRow w B lo n cap (s.sent ++ s.next)) (hsm : n ≤ 1000) (hs0 : s.sent = []) (hl0 : 0 ≤ t.last) (hl1 : t.last < 256) (hf : s.first < 128) (hn : s.next ≠ []) (htf : t.force = true) :
    Calls Try.prog 33 #[.agg (sideC (.slice lo n cap) 0 s.first m o (tlC t))] w fun e w' => e = .returned (.tuple #[.agg (sideC (.slice lo n cap) 0 s.first m o (tlC { t with force := false, pl := 0 })), .agg (uC t.last s.last true true 0 (.slice none 0 0))]) ∧ Below w.heap.size w w' := by
  obtain ⟨W, hW, hA⟩ := AG.begin w (.slice lo n cap) 0 s.first m o t
  obtain ⟨⟨c0, c1⟩, c12, c13, hld, hz⟩ := hA.cells
  have hlen := hr.len
  rw [List.length_append, hs0, List.length_nil, Nat.zero_add] at hlen
  have hla : ((s.first : Int) + 0 - 1) % 128 = s.last := by unfold Hs.last; rw [hs0, List.length_nil]; rfl
  obtain ⟨la, hla2⟩ : ∃ la, la = s.last := ⟨_, rfl⟩
  rw [← hla2] at hla ⊢
  clear hla2
  have hnl : 0 < s.next.length := List.length_pos_iff.2 hn
  have hmore : 0 < n := by omega
  have hft : ∀ (Y : World) (t2 : Cs), Below w.heap.size w Y → Calls Try.prog 49 #[.agg (sideC (.slice lo n cap) 0 s.first m o (tlC t2))] Y fun e w' => e = .returned (.bool true) ∧ Below Y.heap.size Y w' := fun Y t2 hY => by
    have := rfits_any (w := Y) s t2 m o (hr.below hY) hn hsm
    rw [show t2.fits s = true by unfold Cs.fits; rw [hs0]; rfl, hs0, List.length_nil, show ((0 : Nat) : Int) = 0 from rfl] at this
    exact this
  have HFT : Hid (∀ (Y : World) (t2 : Cs), Below w.heap.size w Y → Calls Try.prog 49 #[.agg (sideC (.slice lo n cap) 0 s.first m o (tlC t2))] Y fun e w' => e = .returned (.bool true) ∧ Below Y.heap.size Y w') := hft
  have hf1 := hft W t hA.low
  rw [htf] at c13
  have HTF : Hid (t.force = true) := htf
  clear hft hnl hn htf
  have HA : Hid (AG w W (.slice lo n cap) 0 s.first m o t) := hA
  clear hA hr hlen hs0
  go_enter Try.func33, Try.ntmps33
  go_upto_region 1 with fail
  rw [← hW]
  clear hW
  go_upto_region 8 with (go_at_call 49; refine hf1.mono ?_; rintro e W1 ⟨rfl, hB1⟩; have hA1 := HA.out.below hB1; obtain ⟨⟨d0, d1⟩, d12, d13, dld, dz⟩ := hA1.cells; rw [HTF.out] at d13)
  clear c0 c1 c12 c13 hld hz hf1
  have dz12 := dz 12
  have q1 : decide ((t.pl : Int) < 0) = false := decide_eq_false (by omega)
  have hA9 := hA1.set (t' := ({ t with pl := 0 } : Cs)) (gb_set (k := 12) (.int .i64 0)) (side_setp hA1.s0 0 0 rfl)
  obtain ⟨W9, hW9⟩ : ∃ W9, W9 = W1.setCell ⟨w.heap.size, 12, none⟩ (.int .i64 0) := ⟨_, rfl⟩
  rw [← hW9] at hA9
  have hf9 := HFT.out W9 ({ t with pl := 0 } : Cs) hA9.low
  have hld9 := (ld_side hA9.s0 rfl).1
  have HA9 : Hid (AG w W9 (.slice lo n cap) 0 s.first m o ({ t with pl := 0 } : Cs)) := hA9
  clear hA9 hA1
  go_upto_region 10 with fail
  rw [← hW9]
  clear hW9 d0 d1 d12 d13 dld dz dz12
  go_upto_region 11 with (go_at_call 49; refine hf9.mono ?_; rintro e W5 ⟨rfl, hB5⟩; have hA5 := HA9.out.below hB5; obtain ⟨-, -, g13, -, gz⟩ := hA5.cells; have gz13 := gz 13)
  have hA6 := hA5.set (t' := ({ t with force := false, pl := 0 } : Cs)) (gb_set (k := 13) (.bool false)) (side_setf hA5.s0 false)
  obtain ⟨W6, hW6⟩ : ∃ W6, W6 = W5.setCell ⟨w.heap.size, 13, none⟩ (.bool false) := ⟨_, rfl⟩
  rw [← hW6] at hA6
  rw [← hW6]
  clear hf9 hld9 hA5 g13 gz gz13 hW6 hB5
  obtain ⟨⟨e0, e1⟩, e12, -, eld, -⟩ := hA6.cells
  have e12' : W6.cell? ⟨w.heap.size, 12, none⟩ = some (.int .i64 0) := e12
  have hbk := hA6.bk
  obtain ⟨ds, hds⟩ : ∃ ds, ds = sideC (.slice lo n cap) 0 s.first m o (tlC { t with force := false, pl := 0 }) := ⟨_, rfl⟩
  have hcall : ∀ Y : World, True → Calls Try.prog 23 #[.agg ds] Y fun e w' => e = .returned (.agg (uC t.last la true true 0 (.slice none 0 0))) ∧ Below Y.heap.size Y w' := fun Y _ => by
    have := rfill_any (.slice lo n cap) 0 s.first m o (tlC { t with force := false, pl := 0 }) Y hl0 hl1 (by omega) (by omega) (by omega) (by omega)
    rw [hla, ← hds] at this
    exact this
  have HCALL : Hid (∀ Y : World, True → Calls Try.prog 23 #[.agg ds] Y fun e w' => e = .returned (.agg (uC t.last la true true 0 (.slice none 0 0))) ∧ Below Y.heap.size Y w') := hcall
  rw [← hds] at hbk eld
  have HDS : Hid (ds = sideC (.slice lo n cap) 0 s.first m o (tlC { t with force := false, pl := 0 })) := hds
  have HS : Hid (∀ Y : World, Y.heap[w.heap.size]? = some (.cells ds 28 (0, 0)) → (ldS (.pointer (some ⟨w.heap.size, 0, none⟩))).run Try.prog Y = .ok (.agg ds) Y) := fun Y hY => (ld_side hY (by rw [hds]; rfl)).1
  have hcne : w.heap.size ≠ w.heap.size + 1 + 1 := by omega
  clear hA6 e12 hcall hds hla
  go_upto_region 12 with fail
  clear e0 e1 e12' eld
  have hBd : Below W6.heap.size W6 W6.drew := (Below.refl _ _).drew
  have hBKd := hbk.below hBd
  have hy0 := hBKd.sc
  obtain ⟨Z1, hZ1, HZ1⟩ := hBKd.side
  have hyZ1 := HZ1.out.1.sc
  have HBKd : Hid (BK w W6.drew w.heap.size ds) := hBKd
  clear hBKd hBd
  go_wp2_with fail
  go_region_held (fun Y => (ldS (.pointer (some ⟨w.heap.size, 0, none⟩))).run Try.prog Y = .ok (.agg ds) Y) ((refine HS.out _ ?_; assumption))
    ((go_at_call 23; refine (HCALL.out _ trivial).mono ?_; rintro e w3 ⟨rfl, hB3⟩; first | (have hBL3 := HZ1.out.1.below hB3; have hy3 := hBL3.sc; obtain ⟨Z2, hZ2, HZ2⟩ := hBL3.unit (us := uC t.last la true true 0 (.slice none 0 0)) rfl (uC_one _ _ _ _ _ _ _ _); have hy4 := HZ2.out.2.2.2 hcne; clear hB3 hBL3) | (have hBK3 := HBKd.out.below hB3; have hy3 := hBK3.sc; obtain ⟨Y1, hY1, HY1⟩ := hBK3.side; have hyY1 := HY1.out.1.sc; obtain ⟨Y2, hY2, HY2⟩ := HY1.out.1.unit (us := uC t.last la true true 0 (.slice none 0 0)) rfl (uC_one _ _ _ _ _ _ _ _); have hyY2 := HY2.out.2.2.2 hcne; obtain ⟨V1, V2, hV1, hV2, hyV1, HV⟩ := hBK3.unit (us := uC t.last la true true 0 (.slice none 0 0)) rfl (uC_one _ _ _ _ _ _ _ _); have hyV2 := HV.out.2.2.2; clear hB3 hBK3)))
  all_goals
    go_wp2
    refine bodyPost_ret (v := .tuple #[.agg ds, .agg (uC t.last la true true 0 (.slice none 0 0))]) (by first | (simp [results, Try.results33, asAddr, HY2.out.1.1, HY2.out.1.2]; done) | (simp [results, Try.results33, asAddr, HV.out.1.1, HV.out.1.2]; done) | (simp [results, Try.results33, asAddr, HZ2.out.1.1, HZ2.out.1.2]; done)) rfl ?_
    rw [HDS.out]
    first | exact ⟨rfl, HY2.out.2.1⟩ | exact ⟨rfl, HV.out.2.1⟩ | exact ⟨rfl, HZ2.out.2.1⟩

set_option maxRecDepth 100000 in
set_option maxHeartbeats 4000000 in
theorem ragain_f0 {w : World} {B : Nat} {lo : Option Addr} {n cap : Nat} (s : Hs) (t : Cs) (m o : Int) (hr : PRow w B lo n cap (s.sent ++ s.next)) (hsm : n ≤ 1000) (hs0 : s.sent = []) (hl0 : 0 ≤ t.last) (hl1 : t.last < 256) (hf : s.first < 128) (hn : s.next = []) :
    Calls Try.prog 33 #[.agg (sideC (.slice lo n cap) 0 s.first m o (tlC t))] w fun e w' => e = .returned (.tuple #[.agg (sideC (.slice lo n cap) 0 s.first m o (tlC { t with force := false, pl := 0 })), .agg (uC t.last s.last true true 0 (.slice none 0 0))]) ∧ Below w.heap.size w w' := by
  obtain ⟨W, hW, hA⟩ := AG.begin w (.slice lo n cap) 0 s.first m o t
  obtain ⟨⟨c0, c1⟩, c12, c13, hld, hz⟩ := hA.cells
  have hlen := hr.len
  rw [List.length_append, hs0, List.length_nil, Nat.zero_add] at hlen
  have hla : ((s.first : Int) + 0 - 1) % 128 = s.last := by unfold Hs.last; rw [hs0, List.length_nil]; rfl
  obtain ⟨la, hla2⟩ : ∃ la, la = s.last := ⟨_, rfl⟩
  rw [← hla2] at hla ⊢
  clear hla2
  have hn0 : n = 0 := by rw [hlen.1, hn]; rfl
  subst hn0
  clear hn
  have HA : Hid (AG w W (.slice lo 0 cap) 0 s.first m o t) := hA
  clear hA hr hlen hs0
  go_enter Try.func33, Try.ntmps33
  go_upto_region 1 with fail
  rw [← hW]
  clear hW
  have hA1 := HA.out
  obtain ⟨⟨d0, d1⟩, d12, d13, dld, dz⟩ := hA1.cells
  obtain ⟨b, hb⟩ : ∃ b, b = t.force := ⟨_, rfl⟩
  rw [← hb] at d13
  clear c0 c1 c12 c13 hld hz hb
  cases b
  all_goals
    go_upto_region 8 with fail
    have dz12 := dz 12
    have q1 : decide ((t.pl : Int) < 0) = false := decide_eq_false (by omega)
    have hA9 := hA1.set (t' := ({ t with pl := 0 } : Cs)) (gb_set (k := 12) (.int .i64 0)) (side_setp hA1.s0 0 0 rfl)
    have hA6 := hA9.set (t' := ({ t with force := false, pl := 0 } : Cs)) (gb_set (k := 13) (.bool false)) (side_setf hA9.s0 false)
    have g13 := (hA9.cells).2.2.1
    have gz13 := (hA9.cells).2.2.2.2 13
    obtain ⟨W6, hW6⟩ : ∃ W6, W6 = (W.setCell ⟨w.heap.size, 12, none⟩ (.int .i64 0)).setCell ⟨w.heap.size, 13, none⟩ (.bool false) := ⟨_, rfl⟩
    rw [← hW6] at hA6
    clear hA9 hA1
    go_upto_region 11 with fail
    rw [← hW6]
    clear hW6 d0 d1 d12 d13 dld dz dz12 g13 gz13
    obtain ⟨⟨e0, e1⟩, e12, -, eld, -⟩ := hA6.cells
    have e12' : W6.cell? ⟨w.heap.size, 12, none⟩ = some (.int .i64 0) := e12
    have hbk := hA6.bk
    obtain ⟨ds, hds⟩ : ∃ ds, ds = sideC (.slice lo 0 cap) 0 s.first m o (tlC { t with force := false, pl := 0 }) := ⟨_, rfl⟩
    have hcall : ∀ Y : World, True → Calls Try.prog 23 #[.agg ds] Y fun e w' => e = .returned (.agg (uC t.last la true true 0 (.slice none 0 0))) ∧ Below Y.heap.size Y w' := fun Y _ => by
      have := rfill_any (.slice lo 0 cap) 0 s.first m o (tlC { t with force := false, pl := 0 }) Y hl0 hl1 (by omega) (by omega) (by omega) (by omega)
      rw [hla, ← hds] at this
      exact this
    have HCALL : Hid (∀ Y : World, True → Calls Try.prog 23 #[.agg ds] Y fun e w' => e = .returned (.agg (uC t.last la true true 0 (.slice none 0 0))) ∧ Below Y.heap.size Y w') := hcall
    rw [← hds] at hbk eld
    have HDS : Hid (ds = sideC (.slice lo 0 cap) 0 s.first m o (tlC { t with force := false, pl := 0 })) := hds
    have HS : Hid (∀ Y : World, Y.heap[w.heap.size]? = some (.cells ds 28 (0, 0)) → (ldS (.pointer (some ⟨w.heap.size, 0, none⟩))).run Try.prog Y = .ok (.agg ds) Y) := fun Y hY => (ld_side hY (by rw [hds]; rfl)).1
    have hcne : w.heap.size ≠ w.heap.size + 1 + 1 := by omega
    clear hA6 e12 hcall hds hla
    go_upto_region 12 with fail
    clear e0 e1 e12' eld
    have hBd : Below W6.heap.size W6 W6.drew := (Below.refl _ _).drew
    have hBKd := hbk.below hBd
    have hy0 := hBKd.sc
    obtain ⟨Z1, hZ1, HZ1⟩ := hBKd.side
    have hyZ1 := HZ1.out.1.sc
    have HBKd : Hid (BK w W6.drew w.heap.size ds) := hBKd
    clear hBKd hBd
    go_wp2_with fail
    go_region_held (fun Y => (ldS (.pointer (some ⟨w.heap.size, 0, none⟩))).run Try.prog Y = .ok (.agg ds) Y) ((refine HS.out _ ?_; assumption))
      ((go_at_call 23; refine (HCALL.out _ trivial).mono ?_; rintro e w3 ⟨rfl, hB3⟩; first | (have hBL3 := HZ1.out.1.below hB3; have hy3 := hBL3.sc; obtain ⟨Z2, hZ2, HZ2⟩ := hBL3.unit (us := uC t.last la true true 0 (.slice none 0 0)) rfl (uC_one _ _ _ _ _ _ _ _); have hy4 := HZ2.out.2.2.2 hcne; clear hB3 hBL3) | (have hBK3 := HBKd.out.below hB3; have hy3 := hBK3.sc; obtain ⟨Y1, hY1, HY1⟩ := hBK3.side; have hyY1 := HY1.out.1.sc; obtain ⟨Y2, hY2, HY2⟩ := HY1.out.1.unit (us := uC t.last la true true 0 (.slice none 0 0)) rfl (uC_one _ _ _ _ _ _ _ _); have hyY2 := HY2.out.2.2.2 hcne; obtain ⟨V1, V2, hV1, hV2, hyV1, HV⟩ := hBK3.unit (us := uC t.last la true true 0 (.slice none 0 0)) rfl (uC_one _ _ _ _ _ _ _ _); have hyV2 := HV.out.2.2.2; clear hB3 hBK3)))
    all_goals
      go_wp2
      refine bodyPost_ret (v := .tuple #[.agg ds, .agg (uC t.last la true true 0 (.slice none 0 0))]) (by first | (simp [results, Try.results33, asAddr, HY2.out.1.1, HY2.out.1.2]; done) | (simp [results, Try.results33, asAddr, HV.out.1.1, HV.out.1.2]; done) | (simp [results, Try.results33, asAddr, HZ2.out.1.1, HZ2.out.1.2]; done)) rfl ?_
      rw [HDS.out]
      first | exact ⟨rfl, HY2.out.2.1⟩ | exact ⟨rfl, HV.out.2.1⟩ | exact ⟨rfl, HZ2.out.2.1⟩

/-- A Side is kept in a new block. -/
theorem keep_side (w1 : World) (cs : Array Value) (hc : cs.size = 18) (h1 : cs.all (·.oneCell') = true) : ∃ W2, (stS (.pointer (some ⟨w1.heap.size, 0, none⟩)) (.agg cs)).run Try.prog (w1.alloc (.cells #[.slice none 0 0, .int .i64 0, .int .i64 0, .int .i64 0, .int .i64 0, .bool false, .int .i64 0, .int .i64 0, .bool false, .bool false, .int .i64 0, .bool false, .int .i64 0, .bool false, .bool false, .bool false, .bool false, .bool false] 28)) = .ok () W2 ∧ W2.heap[w1.heap.size]? = some (.cells cs 28 (0, 0)) ∧ Below w1.heap.size w1 W2 :=
  ⟨_, st_side (heap_alloc_new w1 _) rfl hc h1, putS_heap (heap_alloc_new w1 _) hc.symm, putS_below cs ((Below.refl _ _).alloc (Nat.le_refl _) _) (Nat.le_refl _)⟩

set_option maxRecDepth 100000 in
set_option maxHeartbeats 4000000 in
theorem ragain_send {w : World} {B : Nat} {lo : Option Addr} {n cap : Nat} (s : Hs) (t : Cs) (m o : Int) (x : List Int) (xs : List (List Int)) (hr : PRow w B lo n cap (s.sent ++ s.next)) (hsm : n ≤ 1000) (h127 : s.sent.length < 127) (hl0 : 0 ≤ t.last) (hl1 : t.last < 256) (hf : s.first < 128) (hn : s.next = x :: xs) (htf : t.force = false) (hm : t.much s = false) :
    Calls Try.prog 33 #[.agg (sideC (.slice lo n cap) s.sent.length s.first m o (tlC t))] w fun e w' => ∃ v, e = .returned (.tuple #[.agg (sideC (.slice lo n cap) ((s.sent.length : Int) + 1) s.first m o (tlC t)), .agg (uC t.last (((s.first : Int) + s.sent.length) % 128) true true 2 v)]) ∧ HMsg w' B v x ∧ Below w.heap.size w w' := by
  obtain ⟨W, hW, hA⟩ := AG.begin w (.slice lo n cap) s.sent.length s.first m o t
  obtain ⟨⟨c0, c1⟩, c12, c13, hld, hz⟩ := hA.cells
  have hlen := hr.len
  rw [List.length_append, hn, List.length_cons] at hlen
  have hmore : s.sent.length < n := by omega
  have hfit : t.fits s = true := by
    unfold Cs.much at hm
    rw [hn, List.length_cons, decide_eq_true (by omega), Bool.true_and, Bool.not_eq_false'] at hm
    exact hm
  have hf1 : ∀ Y, Below w.heap.size w Y → Calls Try.prog 49 #[.agg (sideC (.slice lo n cap) s.sent.length s.first m o (tlC t))] Y fun e w' => e = .returned (.bool true) ∧ Below Y.heap.size Y w' := fun Y hY => by
    have := rfits_any (w := Y) s t m o (hr.below hY) (by rw [hn]; simp) hsm
    rw [hfit] at this
    exact this
  have hf1 := hf1 W hA.low
  have hse : ∀ Y, Calls Try.prog 35 #[.agg (sideC (.slice lo n cap) s.sent.length s.first m o (tlC t))] Y fun e w' => e = .returned (.tuple #[.agg (sideC (.slice lo n cap) ((s.sent.length : Int) + 1) s.first m o (tlC t)), .int .i64 0]) ∧ Below Y.heap.size Y w' := fun Y => by
    have := rsend_any lo n cap s.sent.length s.first m o (tlC t) Y (by omega) (by omega) (by omega)
    rw [if_neg (by omega), if_neg (by omega), if_neg (by omega), if_neg (by omega)] at this
    exact this
  obtain ⟨g, off, vo, vc, hlo, hcv, hmv⟩ := hr.get s.sent.length (by rw [List.length_append, hn, List.length_cons]; omega)
  have hel : (s.sent ++ s.next)[s.sent.length]'(by rw [List.length_append, hn, List.length_cons]; omega) = x := by
    rw [List.getElem_append_right (Nat.le_refl _)]
    simp [hn]
  rw [hel] at hcv hmv
  have HMV : Hid (HMsg w B (.slice vo x.length vc) x) := hmv
  have HCV : Hid (w.cell? ⟨g, off + s.sent.length, none⟩ = some (.slice vo x.length vc)) := hcv
  have HSE : Hid _ := hse
  subst hlo
  have HA : Hid (AG w W (.slice (some ⟨g, off, none⟩) n cap) s.sent.length s.first m o t) := hA
  rw [htf] at c13
  have HTF : Hid (t.force = false) := htf
  clear hA hr hlen hn hfit hm hel hcv hmv hse htf
  generalize hpq : s.sent.length = p at *
  clear hpq
  go_enter Try.func33, Try.ntmps33
  go_upto_region 1 with fail
  rw [← hW]
  clear hW
  go_upto_region 5 with (go_at_call 49; refine hf1.mono ?_; rintro e W1 ⟨rfl, hB1⟩; have hA1 := HA.out.below hB1; obtain ⟨⟨d0, d1⟩, d12, d13, dld, -⟩ := hA1.cells; rw [HTF.out] at d13; have hsd := HSE.out W1)
  have hbk1 := hA1.bk
  clear c0 c1 c12 c13 hld hz hf1
  go_wp2_with fail
  refine hsd.mono ?_
  rintro e W2 ⟨rfl, hB2⟩
  obtain ⟨W3, hst3, hh3, hB3⟩ := keep_side W2 (sideC (.slice (some ⟨g, off, none⟩) n cap) ((p : Int) + 1) s.first m o (tlC t)) rfl (sideC_one _ _ _ _ _ _ _ _)
  have hA3 := hA1.below (hB2.trans (below_le hB3 hB2.size))
  obtain ⟨c, hc⟩ : ∃ c, c = W2.heap.size := ⟨_, rfl⟩
  have hcs : w.heap.size + 1 + 1 < c := by have := heap_lt hA1.s2; have := hB2.size; omega
  rw [← hc] at hh3
  obtain ⟨ds, hds⟩ : ∃ ds, ds = sideC (.slice (some ⟨g, off, none⟩) n cap) ((p : Int) + 1) s.first m o (tlC t) := ⟨_, rfl⟩
  have hds1 : ds.all (·.oneCell') = true := by rw [hds]; exact sideC_one _ _ _ _ _ _ _ _
  have hdsz : ds.size = 18 := by rw [hds]; rfl
  rw [← hds] at hh3 hst3 ⊢
  have hbk : BK w W3 c ds := ⟨hA3.low, hh3, hA3.s1, hA3.s2, by omega, by omega, hdsz, hds1⟩
  have HDS : Hid (ds = sideC (.slice (some ⟨g, off, none⟩) n cap) ((p : Int) + 1) s.first m o (tlC t)) := hds
  have HS : Hid (∀ Y : World, Y.heap[c]? = some (.cells ds 28 (0, 0)) → (ldS (.pointer (some ⟨c, 0, none⟩))).run Try.prog Y = .ok (.agg ds) Y ∧ Y.cell? ⟨c, 1, none⟩ = some (.int .i64 ((p : Int) + 1))) := fun Y hY => by
    refine ⟨(ld_side hY hdsz).1, ?_⟩
    rw [HDS.out] at hY
    exact (side_cells hY).1.2.1
  have hcall : ∀ Y : World, Below w.heap.size w Y → Calls Try.prog 34 #[.agg ds, .int .i64 p] Y fun e w' => e = .returned (.agg (uC t.last (((s.first : Int) + p) % 128) true true 2 (.slice vo x.length vc))) ∧ Below Y.heap.size Y w' := fun Y hY => by
    have := rmessage_any g off n cap p vo x.length vc ((p : Int) + 1) s.first m o (tlC t) Y hl0 hl1 (by omega) (by omega) hmore (by omega) ((hY.cell (World.block_lt_of_cell? w _ HCV.out)).trans HCV.out)
    rw [← HDS.out] at this
    exact this
  have HCALL : Hid (∀ Y : World, Below w.heap.size w Y → Calls Try.prog 34 #[.agg ds, .int .i64 p] Y fun e w' => e = .returned (.agg (uC t.last (((s.first : Int) + p) % 128) true true 2 (.slice vo x.length vc))) ∧ Below Y.heap.size Y w') := hcall
  have k1 : IntKind.i64.wrap (p : Int) = (p : Int) := wrap_small _ (by omega) (by omega)
  clear hA1 hA3 hB2 hB3 hh3 hds hds1 hdsz hcall hsd hbk1 d0 d1 d12 d13 dld
  go_upto_region 7 with fail
  rw [← hc]
  clear hc
  have hBd : Below W3.heap.size W3 W3.drew := (Below.refl _ _).drew
  have hBKd := hbk.below hBd
  have hy0 := hBKd.sc
  obtain ⟨Z1, hZ1, HZ1⟩ := hBKd.side
  have hyZ1 := HZ1.out.1.sc
  have HBZ1 : Hid (Below w.heap.size w Z1) := HZ1.out.1.low
  have HBW : Hid (Below w.heap.size w W3.drew) := hBKd.low
  have HBKd : Hid (BK w W3.drew c ds) := hBKd
  clear hBKd hBd
  go_wp2_with fail
  go_region_held (fun Y => (ldS (.pointer (some ⟨c, 0, none⟩))).run Try.prog Y = .ok (.agg ds) Y ∧ Y.cell? ⟨c, 1, none⟩ = some (.int .i64 ((p : Int) + 1))) ((refine HS.out _ ?_; assumption))
    ((go_at_call 34; refine (HCALL.out _ (by first | exact HBZ1.out | exact HBW.out)).mono ?_; rintro e w3 ⟨rfl, hB3⟩; first | (have hBL3 := HZ1.out.1.below hB3; have hy3 := hBL3.sc; obtain ⟨Z2, hZ2, HZ2⟩ := hBL3.unit (us := uC t.last (((s.first : Int) + p) % 128) true true 2 (.slice vo x.length vc)) rfl (uC_one _ _ _ _ _ _ _ _); have hy4 := HZ2.out.2.2.2 (by omega); clear hB3 hBL3) | (have hBK3 := HBKd.out.below hB3; have hy3 := hBK3.sc; obtain ⟨Y1, hY1, HY1⟩ := hBK3.side; have hyY1 := HY1.out.1.sc; obtain ⟨Y2, hY2, HY2⟩ := HY1.out.1.unit (us := uC t.last (((s.first : Int) + p) % 128) true true 2 (.slice vo x.length vc)) rfl (uC_one _ _ _ _ _ _ _ _); have hyY2 := HY2.out.2.2.2 (by omega); obtain ⟨V1, V2, hV1, hV2, hyV1, HV⟩ := hBK3.unit (us := uC t.last (((s.first : Int) + p) % 128) true true 2 (.slice vo x.length vc)) rfl (uC_one _ _ _ _ _ _ _ _); have hyV2 := HV.out.2.2.2; clear hB3 hBK3)))
  all_goals
    go_wp2
    refine bodyPost_ret (v := .tuple #[.agg ds, .agg (uC t.last (((s.first : Int) + p) % 128) true true 2 (.slice vo x.length vc))]) (by first | (simp [results, Try.results33, asAddr, HY2.out.1.1, HY2.out.1.2]; done) | (simp [results, Try.results33, asAddr, HV.out.1.1, HV.out.1.2]; done) | (simp [results, Try.results33, asAddr, HZ2.out.1.1, HZ2.out.1.2]; done)) rfl ?_
    rw [HDS.out]
    first | exact ⟨_, rfl, HMV.out.below (below_le HY2.out.2.1 (Nat.le_refl _)), HY2.out.2.1⟩ | exact ⟨_, rfl, HMV.out.below (below_le HV.out.2.1 (Nat.le_refl _)), HV.out.2.1⟩ | exact ⟨_, rfl, HMV.out.below (below_le HZ2.out.2.1 (Nat.le_refl _)), HZ2.out.2.1⟩

end Go.Proofs.Ytmnhciildlmjcaa.Tape
