/- The contracts of an Align's Unit, Out, Sends, Tries, New; of a nil one. -/
import Derived.Test.YtldjglmelbkngaaGreatAlign2
import Derived.Test.YtldjglmelbkngaaGreatAlign3
namespace Go.Proofs.YtldjglmelbkngaaGreat.Tape
open Go.ChangeShapes Go.WideShapes Go.ChangeAt Go.RowKit
set_option linter.unusedVariables false

/-- A Proof written, and another block made. -/
theorem proof_put {w w1 : World} {b c : Nat} {A : Al} (h : AlignAt w b c A) (hB : Below w.heap.size w w1) (cs : Array Value) (hu : Bool) (n t : Int) :
    AlignAt ((putP w1 b hu n t).alloc (.cells cs 103)) b c { A with hur := hu, n := n, tries := t } ∧ Fr b c w ((putP w1 b hu n t).alloc (.cells cs 103)) := by
  have hp := put_prf (h.keep hB) hu n t
  have hB2 := (Below.refl (putP w1 b hu n t).heap.size (putP w1 b hu n t)).alloc (Nat.le_refl _) (.cells cs 103)
  exact ⟨hp.1.keep hB2, (Fr.of_below hB).trans (hp.2.trans (Fr.of_below hB2))⟩

set_option maxRecDepth 100000 in
set_option maxHeartbeats 1000000 in
theorem unit_al (b c : Nat) (A : Al) (wr : Bool) (w : World) (h : AlignAt w b c A) (hn : 0 ≤ A.n ∧ A.n ≤ 1000) (ht : 0 ≤ A.tries ∧ A.tries ≤ 1000) : Calls Tryz.prog 72 #[.pointer (some ⟨b, 0, none⟩), .bool wr] w fun e w' => e = .returned (.int .u8 (A.unitWhy wr)) ∧ AlignAt w' b c (A.unit wr) ∧ Fr b c w w' := by
  have hpu := proof_any A.hur A.n A.tries wr w hn ht
  obtain ⟨⟨c0, -, -, c3, c4, c5, -⟩, -⟩ := h.all
  have HA : Hid (AlignAt w b c A) := h
  by_cases hs : A.st = 3
  · rw [hs] at c0
    have HS : Hid (A.st = 3) := hs
    have HU : Hid (A.unit wr = if (A.n + if wr = true then 1 else 0) ≠ A.most then { A with n := A.n + if wr = true then 1 else 0 } else if A.tries + 1 ≥ 5 then { A with n := 0, tries := A.tries + 1 } else Al.prove { A with n := 0, tries := A.tries + 1 }) := by show _ = _; unfold Al.unit; simp [hs]
    have HV : Hid (A.unitWhy wr = if (A.n + if wr = true then 1 else 0) = A.most ∧ A.tries + 1 ≥ 5 then 5 else 0) := by show _ = _; unfold Al.unitWhy; simp [hs]
    have HP : Hid (prf A.hur A.n A.tries wr = if (A.n + if wr = true then 1 else 0) ≠ A.most then .tuple #[.agg #[.bool A.hur, .int .i64 (A.n + if wr = true then 1 else 0), .int .i64 A.tries], .bool false, .bool false] else .tuple #[.agg #[.bool A.hur, .int .i64 0, .int .i64 (A.tries + 1)], .bool true, .bool (decide (A.tries + 1 ≥ 5))]) := rfl
    generalize A.unit wr = R at *
    generalize A.unitWhy wr = V at *
    generalize (A.n + if wr = true then 1 else 0) = N at *
    obtain ⟨P, hP⟩ : ∃ P, prf A.hur A.n A.tries wr = P := ⟨_, rfl⟩
    rw [hP] at HP hpu
    obtain ⟨hu, ehu⟩ : ∃ x, x = A.hur := ⟨_, rfl⟩
    obtain ⟨n, en⟩ : ∃ x, x = A.n := ⟨_, rfl⟩
    obtain ⟨t, et⟩ : ∃ x, x = A.tries := ⟨_, rfl⟩
    have EH : Hid (hu = A.hur) := ehu
    have ET : Hid (t = A.tries) := et
    rw [← ehu, ← en, ← et] at hpu
    rw [← ehu] at c3
    rw [← en] at c4
    rw [← et] at c5
    rw [← ehu, ← et] at HP
    rw [← et] at HU HV
    clear h hs hn ht hP ehu en et
    by_cases hN : N = A.most
    · by_cases hT : t + 1 ≥ 5
      · have HX : Hid (R = { A with n := 0, tries := t + 1 } ∧ V = 5) := ⟨by have := HU.out; rwa [if_neg (by simp [hN]), if_pos hT] at this, by have := HV.out; rwa [if_pos ⟨hN, hT⟩] at this⟩
        have HPE : P = .tuple #[.agg #[.bool hu, .int .i64 0, .int .i64 (t + 1)], .bool true, .bool true] := by have := HP.out; rwa [if_neg (by simp [hN]), decide_eq_true hT] at this
        subst HPE
        clear HU HV HP hN hT
        go_enter Tryz.func72, Tryz.ntmps72
        go_wp2_with (go_at_call 101; refine hpu.mono ?_; rintro e w1 ⟨rfl, hB1⟩; obtain ⟨⟨-, -, -, d3, d4, d5, -⟩, hz⟩ := (HA.out.keep hB1).all; have z3 := hz 3; have z4 := hz 4; have z5 := hz 5; have hlt1 := (HA.out.keep hB1).lt.1; have HB1 : Hid (Below w.heap.size w w1) := hB1; clear hpu hz c0 c3 c4 c5 hB1)
        go_ret
        have HQ := proof_put HA.out HB1.out #[.bool hu, .int .i64 0, .int .i64 (t + 1)] hu 0 (t + 1)
        exact ⟨ret_int HX.out.2.symm, by rw [HX.out.1, ← EH.out]; exact HQ.1, HQ.2⟩
      · have HX : Hid (R = Al.prove { A with n := 0, tries := t + 1 } ∧ V = 0) := ⟨by have := HU.out; rwa [if_neg (by simp [hN]), if_neg hT] at this, by have := HV.out; rwa [if_neg (fun e => hT e.2)] at this⟩
        have HPE : P = .tuple #[.agg #[.bool hu, .int .i64 0, .int .i64 (t + 1)], .bool true, .bool false] := by have := HP.out; rwa [if_neg (by simp [hN]), decide_eq_false hT] at this
        subst HPE
        clear HU HV HP hN hT
        go_enter Tryz.func72, Tryz.ntmps72
        go_wp2_with (go_at_call 101; refine hpu.mono ?_; rintro e w1 ⟨rfl, hB1⟩; obtain ⟨⟨-, -, -, d3, d4, d5, -⟩, hz⟩ := (HA.out.keep hB1).all; have z3 := hz 3; have z4 := hz 4; have z5 := hz 5; have hlt1 := (HA.out.keep hB1).lt.1; have HB1 : Hid (Below w.heap.size w w1) := hB1; clear hpu hz c0 c3 c4 c5 hB1)
        have HQ := proof_put HA.out HB1.out #[.bool hu, .int .i64 0, .int .i64 (t + 1)] hu 0 (t + 1)
        have hpr := prove_al b c _ _ HQ.1
        rw [← EH.out] at HX
        refine hpr.mono ?_
        rintro e w4 ⟨rfl, h4, hF4⟩
        have HF4 : Hid (Fr b c w w4) := HQ.2.trans hF4
        clear hpr HQ hF4
        go_wp2
        go_ret
        exact ⟨ret_int HX.out.2.symm, by rw [HX.out.1]; exact h4, HF4.out⟩
    · have HX : Hid (R = { A with n := N, tries := t } ∧ V = 0) := ⟨by have := HU.out; rw [if_pos hN] at this; rw [this, ET.out], by have := HV.out; rwa [if_neg (fun e => hN e.1)] at this⟩
      have HPE : P = .tuple #[.agg #[.bool hu, .int .i64 N, .int .i64 t], .bool false, .bool false] := by have := HP.out; rwa [if_pos hN] at this
      subst HPE
      clear HU HV HP hN
      go_enter Tryz.func72, Tryz.ntmps72
      go_wp2_with (go_at_call 101; refine hpu.mono ?_; rintro e w1 ⟨rfl, hB1⟩; obtain ⟨⟨-, -, -, d3, d4, d5, -⟩, hz⟩ := (HA.out.keep hB1).all; have z3 := hz 3; have z4 := hz 4; have z5 := hz 5; have hlt1 := (HA.out.keep hB1).lt.1; have HB1 : Hid (Below w.heap.size w w1) := hB1; clear hpu hz c0 c3 c4 c5 hB1)
      go_ret
      have HQ := proof_put HA.out HB1.out #[.bool hu, .int .i64 N, .int .i64 t] hu N t
      exact ⟨ret_int HX.out.2.symm, by rw [HX.out.1, ← EH.out]; exact HQ.1, HQ.2⟩
  · have HX : Hid (A.unit wr = A ∧ A.unitWhy wr = 0) := ⟨if_pos hs, if_neg (fun e => hs e.1)⟩
    have n3 : (A.st != 3) = true := by rw [bne_iff_ne]; exact hs
    generalize A.unit wr = R at *
    generalize A.unitWhy wr = V at *
    generalize A.st = st at *
    clear h hpu hn ht hs
    go_enter Tryz.func72, Tryz.ntmps72
    go_wp2
    go_ret
    exact ⟨ret_int HX.out.2.symm, by rw [HX.out.1]; exact HA.out, Fr.refl _ _ _⟩

set_option maxRecDepth 100000 in
set_option maxHeartbeats 1000000 in
theorem out_al (b c : Nat) (A : Al) (k : Int) (w : World) (h : AlignAt w b c A) : Calls Tryz.prog 111 #[.pointer (some ⟨b, 0, none⟩), .int .i64 k] w fun e w' => e = .returned (.tuple #[.bool (A.proved k), .int .u8 (A.outWhy k)]) ∧ AlignAt w' b c (A.out k) ∧ Fr b c w w' := by
  obtain ⟨⟨c0, -⟩, -⟩ := h.all
  have hen := end_al b c A w h
  have HA : Hid (AlignAt w b c A) := h
  have HX : Hid ((A.proved k = decide (A.st = 3 ∧ (k = 0 ∨ k = 4))) ∧ (A.outWhy k = if (A.st = 1 ∧ k = 2) ∨ (A.st = 2 ∧ k = 3) then 7 else 0) ∧ A.out k = if A.st = 3 ∧ (k = 0 ∨ k = 4) then A.end_ else A) := ⟨rfl, rfl, rfl⟩
  generalize A.proved k = p at *
  generalize A.outWhy k = v at *
  generalize A.out k = R at *
  generalize A.st = st at *
  clear h
  by_cases h3 : st = 3
  · subst h3
    by_cases hk : k = 0 ∨ k = 4
    · have HE : Hid (p = true ∧ v = 0 ∧ R = A.end_) := by obtain ⟨h1, h2, h3⟩ := HX.out; exact ⟨by simp [h1, hk], by simp [h2], by simp [h3, hk]⟩
      clear HX
      rcases hk with rfl | rfl <;>
      · go_enter Tryz.func111, Tryz.ntmps111
        go_wp2_with (go_at_call 61; refine hen.mono ?_; rintro e w1 ⟨rfl, h1, hF1⟩)
        refine bodyPost_ret (v := .tuple #[.bool true, .int .u8 0]) (by simp [results, Tryz.results111, go_sem]) rfl ?_
        obtain ⟨rfl, rfl, rfl⟩ := HE.out
        exact ⟨rfl, h1, hF1⟩
    · have HE : Hid (p = false ∧ v = 0 ∧ R = A) := by obtain ⟨h1, h2, h3⟩ := HX.out; exact ⟨by simp [h1, hk], by simp [h2], by simp [h3, hk]⟩
      have k0 : (k == 0) = false := by rw [beq_eq_false_iff_ne]; omega
      have k4 : (k == 4) = false := by rw [beq_eq_false_iff_ne]; omega
      clear HX hk hen
      go_enter Tryz.func111, Tryz.ntmps111
      go_wp2
      refine bodyPost_ret (v := .tuple #[.bool false, .int .u8 0]) (by simp [results, Tryz.results111, go_sem]) rfl ?_
      obtain ⟨rfl, rfl, rfl⟩ := HE.out
      exact ⟨rfl, HA.out, Fr.refl _ _ _⟩
  · by_cases h1 : st = 1
    · subst h1
      by_cases hk : k = 2
      · have HE : Hid (p = false ∧ v = 7 ∧ R = A) := by obtain ⟨h1, h2, h3⟩ := HX.out; exact ⟨by simp [h1], by simp [h2, hk], by simp [h3]⟩
        subst hk
        clear HX hen
        go_enter Tryz.func111, Tryz.ntmps111
        go_wp2
        refine bodyPost_ret (v := .tuple #[.bool false, .int .u8 7]) (by simp [results, Tryz.results111, go_sem]) rfl ?_
        obtain ⟨rfl, rfl, rfl⟩ := HE.out
        exact ⟨rfl, HA.out, Fr.refl _ _ _⟩
      · have HE : Hid (p = false ∧ v = 0 ∧ R = A) := by obtain ⟨h1, h2, h3⟩ := HX.out; exact ⟨by simp [h1], by simp [h2, hk], by simp [h3]⟩
        clear HX hen
        go_enter Tryz.func111, Tryz.ntmps111
        go_wp2
        refine bodyPost_ret (v := .tuple #[.bool false, .int .u8 0]) (by simp [results, Tryz.results111, go_sem]) rfl ?_
        obtain ⟨rfl, rfl, rfl⟩ := HE.out
        exact ⟨rfl, HA.out, Fr.refl _ _ _⟩
    · by_cases h2 : st = 2
      · subst h2
        by_cases hk : k = 3
        · have HE : Hid (p = false ∧ v = 7 ∧ R = A) := by obtain ⟨h1, h2, h3⟩ := HX.out; exact ⟨by simp [h1], by simp [h2, hk], by simp [h3]⟩
          subst hk
          clear HX hen
          go_enter Tryz.func111, Tryz.ntmps111
          go_wp2
          refine bodyPost_ret (v := .tuple #[.bool false, .int .u8 7]) (by simp [results, Tryz.results111, go_sem]) rfl ?_
          obtain ⟨rfl, rfl, rfl⟩ := HE.out
          exact ⟨rfl, HA.out, Fr.refl _ _ _⟩
        · have HE : Hid (p = false ∧ v = 0 ∧ R = A) := by obtain ⟨h1, h2, h3⟩ := HX.out; exact ⟨by simp [h1], by simp [h2, hk], by simp [h3]⟩
          clear HX hen
          go_enter Tryz.func111, Tryz.ntmps111
          go_wp2
          refine bodyPost_ret (v := .tuple #[.bool false, .int .u8 0]) (by simp [results, Tryz.results111, go_sem]) rfl ?_
          obtain ⟨rfl, rfl, rfl⟩ := HE.out
          exact ⟨rfl, HA.out, Fr.refl _ _ _⟩
      · have HE : Hid (p = false ∧ v = 0 ∧ R = A) := by obtain ⟨e1, e2, e3⟩ := HX.out; exact ⟨by simp [e1, h3], by simp [e2, h1, h2], by simp [e3, h3]⟩
        clear HX hen
        go_enter Tryz.func111, Tryz.ntmps111
        go_wp2
        refine bodyPost_ret (v := .tuple #[.bool false, .int .u8 0]) (by simp [results, Tryz.results111, go_sem]) rfl ?_
        obtain ⟨rfl, rfl, rfl⟩ := HE.out
        exact ⟨rfl, HA.out, Fr.refl _ _ _⟩

set_option maxRecDepth 100000 in
theorem sends_al (b c : Nat) (A : Al) (w : World) (h : AlignAt w b c A) : Calls Tryz.prog 43 #[.pointer (some ⟨b, 0, none⟩)] w fun e w' => e = .returned (.int .u8 A.sends) ∧ w' = w := by
  obtain ⟨⟨c0, c1, -⟩, -⟩ := h.all
  have HX : Hid (A.sends = if A.st = 0 then 3 else if A.st = 1 then 0 else if A.own = true then 2 else 1) := rfl
  generalize A.sends = v at *
  generalize A.st = st at *
  generalize A.own = o at *
  clear h
  by_cases h0 : st = 0
  · have HE : Hid (v = 3) := by have := HX.out; rwa [if_pos h0] at this
    subst h0
    clear HX
    go_enter Tryz.func43, Tryz.ntmps43
    go_wp2
    go_ret
    exact ⟨ret_int HE.out.symm, rfl⟩
  · by_cases h1 : st = 1
    · have HE : Hid (v = 0) := by have := HX.out; rwa [if_neg h0, if_pos h1] at this
      subst h1
      clear HX
      go_enter Tryz.func43, Tryz.ntmps43
      go_wp2
      go_ret
      exact ⟨ret_int HE.out.symm, rfl⟩
    · cases o
      · have HE : Hid (v = 1) := by have := HX.out; rwa [if_neg h0, if_neg h1, if_neg (by simp)] at this
        clear HX
        go_enter Tryz.func43, Tryz.ntmps43
        go_wp2
        go_ret
        exact ⟨ret_int HE.out.symm, rfl⟩
      · have HE : Hid (v = 2) := by have := HX.out; rwa [if_neg h0, if_neg h1, if_pos rfl] at this
        clear HX
        go_enter Tryz.func43, Tryz.ntmps43
        go_wp2
        go_ret
        exact ⟨ret_int HE.out.symm, rfl⟩

/-- A new Align. -/
def al0 (t : Nat → Int) (xs : List Int) : Al := ⟨0, false, false, false, 0, 0, t, xs⟩

set_option maxRecDepth 100000 in
set_option maxHeartbeats 1000000 in
theorem alnew_any (c : Nat) (cy : Bool) (n1 n2 ho oc : Int) (t : Nat → Int) (xs : List Int) (w : World) (hc : ClockAt w c xs) (ht : ∀ k, 1 ≤ t k ∧ t k ≤ 4294967296) :
    Calls Tryz.prog 37 #[.agg #[.bool cy, .int .i64 n1, .int .i64 n2, .int .i64 ho, .int .i64 oc, .int .i64 (t 0), .int .i64 (t 1), .int .i64 (t 2), .int .i64 (t 3), .int .i64 (t 4), .int .i64 (t 5), .int .i64 (t 6), .int .i64 (t 7)], .pointer (some ⟨c, 0, none⟩)] w
      fun e w' => ∃ b, e = .returned (.pointer (some ⟨b, 0, none⟩)) ∧ w.heap.size ≤ b ∧ AlignAt w' b c (al0 t xs) ∧ Below w.heap.size w w' := by
  have HC : Hid (ClockAt w c xs) := hc
  have HT : Hid (∀ k, 1 ≤ t k ∧ t k ≤ 4294967296) := ht
  clear hc ht
  go_enter Tryz.func37, Tryz.ntmps37
  go_wp2
  go_ret
  have hB := ((Below.refl w.heap.size w).alloc (Nat.le_refl _) (.cells #[.bool cy, .int .i64 n1, .int .i64 n2, .int .i64 ho, .int .i64 oc, .int .i64 (t 0), .int .i64 (t 1), .int .i64 (t 2), .int .i64 (t 3), .int .i64 (t 4), .int .i64 (t 5), .int .i64 (t 6), .int .i64 (t 7)] 28))
  have hB2 := hB.alloc hB.size (.cells (alC c (al0 t xs)).toArray 105)
  refine ⟨w.heap.size + 1, rfl, Nat.le_succ _, ⟨?_, HC.out.keep hB2, HT.out⟩, hB2⟩
  have := heap_alloc_new (w.alloc (.cells #[.bool cy, .int .i64 n1, .int .i64 n2, .int .i64 ho, .int .i64 oc, .int .i64 (t 0), .int .i64 (t 1), .int .i64 (t 2), .int .i64 (t 3), .int .i64 (t 4), .int .i64 (t 5), .int .i64 (t 6), .int .i64 (t 7)] 28)) (.cells (alC c (al0 t xs)).toArray 105)
  rwa [show (w.alloc (.cells #[.bool cy, .int .i64 n1, .int .i64 n2, .int .i64 ho, .int .i64 oc, .int .i64 (t 0), .int .i64 (t 1), .int .i64 (t 2), .int .i64 (t 3), .int .i64 (t 4), .int .i64 (t 5), .int .i64 (t 6), .int .i64 (t 7)] 28)).heap.size = w.heap.size + 1 by simp] at this

theorem al_begin_nil (w : World) : Calls Tryz.prog 86 #[.pointer none] w fun e w' => e = .returned (.tuple #[]) ∧ w' = w := by
  go_enter Tryz.func86, Tryz.ntmps86
  go_wp2
  refine bodyPost_ret (v := .tuple #[]) (by simp [results, Tryz.results86, go_sem]) rfl ?_
  exact ⟨rfl, rfl⟩
theorem al_end_nil (w : World) : Calls Tryz.prog 61 #[.pointer none] w fun e w' => e = .returned (.tuple #[]) ∧ w' = w := by
  go_enter Tryz.func61, Tryz.ntmps61
  go_wp2
  refine bodyPost_ret (v := .tuple #[]) (by simp [results, Tryz.results61, go_sem]) rfl ?_
  exact ⟨rfl, rfl⟩
theorem al_hurry_nil (on : Bool) (w : World) : Calls Tryz.prog 52 #[.pointer none, .bool on] w fun e w' => e = .returned (.tuple #[]) ∧ w' = w := by
  go_enter Tryz.func52, Tryz.ntmps52
  go_wp2
  refine bodyPost_ret (v := .tuple #[]) (by simp [results, Tryz.results52, go_sem]) rfl ?_
  exact ⟨rfl, rfl⟩
theorem al_heard_nil (s : Int) (w : World) : Calls Tryz.prog 47 #[.pointer none, .int .u8 s] w fun e w' => e = .returned (.int .u8 0) ∧ w' = w := by
  go_enter Tryz.func47, Tryz.ntmps47
  go_wp2
  go_ret
  exact ⟨rfl, rfl⟩
theorem al_unit_nil (wr : Bool) (w : World) : Calls Tryz.prog 72 #[.pointer none, .bool wr] w fun e w' => e = .returned (.int .u8 0) ∧ w' = w := by
  go_enter Tryz.func72, Tryz.ntmps72
  go_wp2
  go_ret
  exact ⟨rfl, rfl⟩
theorem al_out_nil (k : Int) (w : World) : Calls Tryz.prog 111 #[.pointer none, .int .i64 k] w fun e w' => e = .returned (.tuple #[.bool false, .int .u8 0]) ∧ w' = w := by
  go_enter Tryz.func111, Tryz.ntmps111
  go_wp2
  refine bodyPost_ret (v := .tuple #[.bool false, .int .u8 0]) (by simp [results, Tryz.results111, go_sem]) rfl ?_
  exact ⟨rfl, rfl⟩
theorem al_sends_nil (w : World) : Calls Tryz.prog 43 #[.pointer none] w fun e w' => e = .returned (.int .u8 3) ∧ w' = w := by
  go_enter Tryz.func43, Tryz.ntmps43
  go_wp2
  go_ret
  exact ⟨rfl, rfl⟩
end Go.Proofs.YtldjglmelbkngaaGreat.Tape
