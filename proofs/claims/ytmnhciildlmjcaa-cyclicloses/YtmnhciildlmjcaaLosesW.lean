/- CyclicLoses' walk. -/
import Derived.Test.YtmnhciildlmjcaaLose4
import Derived.Deep.CutBlock
namespace Go.Proofs.Ytmnhciildlmjcaa.Tape
open Go.ChangeShapes Go.WideShapes Go.ChangeAt Go.RowKit
set_option linter.unusedVariables false

theorem ta0 (n1 n2 : Int) : taC n1 n2 l0 = cs0 n1 n2 := rfl
theorem tb0 (n1 n2 : Int) : tbC n1 n2 l0 = cs0 n1 n2 := rfl
theorem sa0 (k : Nat) : saH k l0 = ⟨200, 100000, 0, [], mgr 0 k⟩ := by simp [saH, l0, mgr]

/-- What holds at the beginning of a round. -/
def LR (k c e : Nat) (n1 n2 : Int) (xs : List Int) (w0 : World) (C pa hba pb hbb : Nat) (v1 v2 : Value) (i : Nat) (w : World) : Prop :=
  ∃ Ta Tb us vs, LP w0 w C k c pa hba pb hbb Ta Tb (taC n1 n2 (hst k c e xs i)) (saH k (hst k c e xs i)) (tbC n1 n2 (hst k c e xs i)) v1 v2 us vs (win k c e xs i) ∧ vs = (win k c e xs i).map UB

theorem unit_lit (w : World) (u : Array Value) : ∀ j y, u.toList[j]? = some y → (w.alloc (.cells u 32)).cell? ((⟨w.heap.size, 0, none⟩ : Addr).add j) = some y := fun j y h => by
  rw [Addr.add_lit]
  have hh := heap_alloc_new w (.cells u 32)
  unfold World.cell?
  rw [hh]
  simpa using h

theorem URow.form' {w : World} {v : Value} {us : List (Array Value)} (h : URow w v us) {n : Nat} (hn : us.length = n) : ∃ ao cap, v = .slice ao n cap ∧ n ≤ cap := by
  subst hn
  exact h.form

attribute [local go_sem ↓] ldU_def stU_def

set_option maxRecDepth 100000 in
set_option maxHeartbeats 4000000 in
theorem loses_walk (x z1 z2 y : Int) (a : Option Addr) (len cap : Nat) (xs : List Int) (w : World) (h0 : 0 ≤ x) (h1 : x ≤ 255) (h2 : 0 ≤ y) (h3 : y ≤ 255) (g0 : 0 ≤ z1) (g1 : z1 ≤ 255) (g2 : 0 ≤ z2) (g3 : z2 ≤ 255) (hlen : len = xs.length) (hrd : Reads w a (xs.map (.int .u8))) (hxs : ∀ x ∈ xs, 0 ≤ x ∧ x ≤ 255) (hl60 : len ≤ 60) :
    Calls Try.prog 4 #[.int .u8 x, .int .u8 z1, .int .u8 z2, .slice a len cap, .int .u8 y] w fun e w' => e = .returned (.bool true) ∧ Below w.heap.size w w' := by
  obtain ⟨k, hk⟩ : ∃ k : Nat, x % 20 = k := ⟨(x % 20).toNat, by omega⟩
  have hk20 : k < 20 := by omega
  obtain ⟨e, he⟩ : ∃ e : Nat, y % 6 = e := ⟨(y % 6).toNat, by omega⟩
  have he5 : e ≤ 5 := by omega
  obtain ⟨n1, hn1⟩ : ∃ n1, (1 : Int) + z1 % 12 = n1 := ⟨_, rfl⟩
  obtain ⟨n2, hn2⟩ : ∃ n2, (3 : Int) + z2 % 60 = n2 := ⟨_, rfl⟩
  have hn1b : 1 ≤ n1 ∧ n1 ≤ 12 := by omega
  have hn2b : 3 ≤ n2 ∧ n2 ≤ 62 := by omega
  obtain ⟨c, hbn⟩ : ∃ c : Nat, Bnd n1 n2 c := by
    by_cases hlt : n1 ≤ n2 / 3
    · exact ⟨n1.toNat, by omega, by omega, by omega, by omega, by omega⟩
    · exact ⟨(n2 / 3).toNat, by omega, by omega, by omega, by omega, by omega⟩
  have HE : Hid (y % 6 = e) := he
  have HXS : Hid (∀ x ∈ xs, 0 ≤ x ∧ x ≤ 255) := hxs
  have HRD : Hid (Reads w a (xs.map (.int .u8))) := hrd
  have HLEN : Hid (len = xs.length) := hlen
  have HBN : Hid (Bnd n1 n2 c) := hbn
  clear he hxs hrd hlen hbn
  go_enter Try.func4, Try.ntmps4
  go_wp2_with fail
  refine (awake12_any _).mono ?_
  rintro e1 w1 ⟨rfl, hB1⟩
  go_wp2_with fail
  try rw [hn1]
  try rw [hn2]
  refine (cnew_any 200 100000 n1 n2 w.heap.size w1 (by omega) (by omega) (by omega) (by omega) hB1.size).mono ?_
  rintro e1 w2 ⟨pa, hba, Ta, rfl, hina, hTa, hB2⟩
  have hB02 : Below w.heap.size w w2 := hB1.trans (below_le hB2 hB1.size)
  clear hn1 hn2
  go_wp2_with fail
  refine (cnew_any 200 100000 n1 n2 w.heap.size w2 (by omega) (by omega) (by omega) (by omega) hB02.size).mono ?_
  rintro e1 w3 ⟨pb, hbb, Tb, rfl, hinb, hTb, hB3⟩
  have hB03 : Below w.heap.size w w3 := hB02.trans (below_le hB3 hB02.size)
  have hab : ∀ g, (g = pa ∨ Ta g) → (g = pb ∨ Tb g) → False := fun g ga gb => by
    have := (hina.at_.lt g ga).2
    have := hTb g gb
    omega
  have hina3 := hina.below hB3
  clear hB1 hB2 hB3 hina hTa hTb hB02
  go_wp2_with fail
  try rw [hk]
  clear hk h0 h1 g0 g1 g2 g3
  have e60 : decide ((60 : Int) < (len : Int)) = false := decide_eq_false (by omega)
  try rw [e60]
  clear e60
  go_loopw [16] (fun i wr => ∃ (q : Nat) (T1 : Nat → Prop), q ≤ k ∧ i = .int .i64 q ∧ CycIn wr pa hba w.heap.size T1 (cs0 n1 n2) ⟨200, 100000, 0, [], mgr 0 q⟩ ∧ CycIn wr pb hbb w.heap.size Tb (cs0 n1 n2) sb0 ∧ (∀ g, (g = pa ∨ T1 g) → (g = pb ∨ Tb g) → False) ∧ Below w.heap.size w wr) (fun i _ => k - (intOf i).toNat)
  case atStart => exact ⟨0, Ta, by omega, rfl, hina3, hinb, hab, hB03⟩
  case round =>
    clear hina3 hinb hab hB03
    obtain ⟨q, T1, hq, rfl, hina, hinb, hab, hB⟩ := hrel
    have hho := chold_any _ _ _ _ _ _ _ hina
    by_cases hlt : q < k
    · obtain ⟨W, hW⟩ : ∃ W, W = wr.alloc (.cells #[.int .u8 q, .int .u8 1, .int .u8 2] 5) := ⟨_, rfl⟩
      have hBW : Below wr.heap.size wr W := by rw [hW]; exact (Below.refl _ _).alloc (Nat.le_refl _) _
      have hrW : Reads W (some ⟨wr.heap.size, 0, none⟩) ((mg q).map (.int .u8)) := by rw [hW]; exact reads_lit wr [(q : Int), 1, 2] (0, 0)
      have hinW := hina.below hBW
      have HINB : Hid (CycIn W pb hbb w.heap.size Tb (cs0 n1 n2) sb0) := hinb.below hBW
      have HB : Hid (Below w.heap.size w W) := hB.trans (below_le hBW hB.size)
      have hput := hinW.put (some ⟨wr.heap.size, 0, none⟩) 3 3 (mg q) rfl hrW (by intro x hx; simp [mg] at hx; omega) HB.out.size (by omega) (by omega) (by simp only [mgr_len, List.length_nil]; omega) (by have := sz_mgr 0 q; rw [Nat.zero_add] at this; simp only [this, sz]; omega)
      simp only [mgr_snoc (Nat.zero_le q)] at hput
      have HINA : Hid (CycIn W pa hba w.heap.size T1 (cs0 n1 n2) ⟨200, 100000, 0, [], mgr 0 q⟩) := hinW
      have HAB : Hid (∀ g, (g = pa ∨ T1 g) → (g = pb ∨ Tb g) → False) := hab
      clear hinW hrW hBW hB hina hinb hab
      go_wp2_with (first
        | (go_at_call 10; refine hho.mono ?_; rintro e w3 ⟨rfl, hw3⟩; obtain rfl := hw3.symm; clear hw3)
        | (go_at_call 11; rw [← hW]; refine hput.mono ?_; rintro e w4 ⟨rfl, T4, hin4, hF4⟩))
      have hB4 := HB.out.trans (HINA.out.fbelow hF4 (Nat.le_refl _) HB.out.size)
      have hinb4 := HINB.out.other hF4 (fun g hg hg' => HAB.out g hg' hg) HINA.out.at_.not5
      have hab4 : ∀ g, (g = pa ∨ T4 g) → (g = pb ∨ Tb g) → False := fun g ga gb => by
        rcases hF4.moved g ga with e | e
        · exact HAB.out g e gb
        · have := (HINB.out.at_.lt g gb).2
          omega
      clear hF4 hput hho hW
      go_roundw
      case rel => exact ⟨q + 1, T4, by omega, by go_num, hin4, hinb4, hab4, hB4⟩
      case measure => simp [intOf]; omega
    · obtain rfl : q = k := by omega
      have hr0 := hst_run q c e xs
      have hLR : LR q c e n1 n2 xs w w.heap.size pa hba pb hbb (.slice none 0 0) (.slice none 0 0) 0 wr := by
        have hw0 : win q c e xs 0 = [] := List.eq_nil_of_length_eq_zero (by rw [win_len]; omega)
        refine ⟨T1, Tb, [], [], ⟨?_, ?_, hab, URow.nil _, by rw [hw0]; trivial, URow.nil _, fun g hg => by simp [Value.ownBlock] at hg, fun g hg => by simp [Value.ownBlock] at hg, fun g hg => by simp [Value.ownBlock] at hg, hB, Nat.le_refl _⟩, by rw [hw0]; rfl⟩
        · rw [hr0.zero, ta0, sa0]; exact hina
        · rw [hr0.zero, tb0]; exact hinb
      have hg0 : (hst q c e xs 0).g = 0 := by rw [hr0.zero]; rfl
      clear hina hinb hab hB hho hr0 hlt hq
      go_wp2_with fail
      try rw [HE.out]
      clear h2 h3
      go_loopw [18, 19, 20, 21] (fun v1 v2 g i wr => ∃ j : Nat, j ≤ 900 ∧ i = .int .i64 j ∧ g = .int .i64 (hst q c e xs j).g ∧ LR q c e n1 n2 xs w w.heap.size pa hba pb hbb v1 v2 j wr) (fun _ _ _ i _ => 900 - (intOf i).toNat)
      case atStart => exact ⟨0, by omega, rfl, by rw [hg0]; rfl, hLR⟩
      case round =>
        clear hLR hg0
        obtain ⟨j, hj, rfl, rfl, Ta, Tb, us, vs, hLP, hvs⟩ := hrel
        by_cases hlt : j < 900
        · obtain ⟨ao, ca, rfl, hca⟩ := hLP.r1.form
          obtain ⟨bo, cb, rfl, hcb⟩ := hLP.r2.form
          have hul : us.length = min j e := by rw [hLP.e1.len, win_len]
          have hvl : vs.length = min j e := by rw [hvs, List.length_map, win_len]
          have hfi := (hst_run q c e xs).fine j
          have hsS := sent_S hfi
          have hanx := a_next pa hba w.heap.size q c n1 n2 Ta _ wr hLP.a hfi HBN.out hk20 hLP.size
          have HFI : Hid ((hst q c e xs j).Fine q c) := hfi
          obtain ⟨nu, hnu⟩ : ∃ nu, nu = us.length := ⟨_, rfl⟩
          obtain ⟨nv, hnv⟩ : ∃ nv, nv = vs.length := ⟨_, rfl⟩
          rw [← hnu] at hca hul hLP
          rw [← hnv] at hcb hvl hLP
          rw [← hnu, ← hnv]
          have HNU : Hid (nu = us.length) := hnu
          have HNV : Hid (nv = vs.length) := hnv
          have HUL : Hid (nu = min j e) := hul
          have HVL : Hid (nv = min j e) := hvl
          have HLP : Hid (LP w wr w.heap.size q c pa hba pb hbb Ta Tb (taC n1 n2 (hst q c e xs j)) (saH q (hst q c e xs j)) (tbC n1 n2 (hst q c e xs j)) (.slice ao nu ca) (.slice bo nv cb) us vs (win q c e xs j)) := hLP
          have HVS : Hid (vs = (win q c e xs j).map UB) := hvs
          have hul6 : us.length ≤ 5 := by have := HNU.out; have := HUL.out; omega
          have hvl6 : vs.length ≤ 5 := by have := HNV.out; have := HVL.out; omega
          obtain ⟨m0, hm0⟩ : ∃ m0, m0 = ((hst q c e xs j).sent q c).S - (hst q c e xs j).f := ⟨_, rfl⟩
          have HM0 : Hid (m0 = ((hst q c e xs j).sent q c).S - (hst q c e xs j).f ∧ ((hst q c e xs j).sent q c).f = (hst q c e xs j).f ∧ (hst q c e xs j).f ≤ ((hst q c e xs j).sent q c).S) := ⟨hm0, hsS.2.2.2.2.2.1, by have := hfi.fP; have := hfi.PS; omega⟩
          have hm0c : m0 ≤ c := by have := hsS.2.2.1; omega
          clear hnu hnv hul hvl hLP hvs hfi hsS hm0
          go_upto_region 18 with fail
          go_upto_region 19 with (first
            | (go_at_call 14; refine hanx.mono ?_; rintro e2 w4 ⟨u, T4, he2, hu, hin4, hF4⟩; obtain ⟨fa, ka, ma, na, ca4, hu4⟩ := hu.form; rw [hu4] at he2; unfold uC at he2; subst he2; have HLP4 : Hid (LP w w4 w.heap.size q c pa hba pb hbb T4 Tb (taC n1 n2 ((hst q c e xs j).sent q c)) (saH q ((hst q c e xs j).sent q c)) (tbC n1 n2 (hst q c e xs j)) (.slice ao nu ca) (.slice bo nv cb) us vs (win q c e xs j)) := HLP.out.stepA hin4 hF4; have HUA4 : Hid (UA w4 w.heap.size q c u (hst q c e xs j) ∧ u = uC 127 fa true true ka (.slice ma na ca4)) := ⟨hu, hu4⟩; clear hu hu4 hin4 hF4 hanx)
            | (at_builtin; refine urow_push rfl _ _ rfl (.slice ao nu ca) us rfl (HLP4.out.r1.below ((Below.refl _ _).alloc (Nat.le_refl _) _)) ⟨w4.heap.size, 0, none⟩ (uC 127 fa true true ka (.slice ma na ca4)) 1 rfl (unit_lit w4 (uC 127 fa true true ka (.slice ma na ca4))) rfl (uC_one _ _ _ _ _ _ _ _) (by omega) ?_; intro v5 w5 hr5 hg5 hm5))
          have hBa : Below w4.heap.size w4 (w4.alloc (.cells #[.int .u8 127, .int .u8 fa, .bool true, .bool true, .int .u8 ka, .int .u8 0, .bool false, .slice ma na ca4] 32)) := (Below.refl _ _).alloc (Nat.le_refl _) _
          rw [show uC 127 fa true true ka (.slice ma na ca4) = u from HUA4.out.2.symm] at hr5
          have HLP5 : Hid (LP w w5 w.heap.size q c pa hba pb hbb T4 Tb (taC n1 n2 ((hst q c e xs j).sent q c)) (saH q ((hst q c e xs j).sent q c)) (tbC n1 n2 (hst q c e xs j)) v5 (.slice bo nv cb) (us ++ [u]) vs (win q c e xs j ++ [(hst q c e xs j)])) :=
            (HLP4.out.below hBa).push1 (HUA4.out.1.keep fun g cur hg => hBa.block g (heap_lt hg)) hr5 hg5 hm5
          obtain ⟨ao5, ca5, rfl, hca5⟩ := hr5.form' (n := nu + 1) (by simp [← HNU.out])
          have hbn := b_next pb hbb w.heap.size n1 n2 Tb (hst q c e xs j) w5 HLP5.out.b HLP5.out.size
          unfold UB uC at hbn
          obtain ⟨gb, hgb⟩ : ∃ gb, gb = (((hst q c e xs j).g : Int) + 127) % 128 := ⟨_, rfl⟩
          have HUB : Hid (UB (hst q c e xs j) = uC gb 127 true true 0 (.slice none 0 0)) := by show _ = _; unfold UB; rw [hgb]
          rw [← hgb] at hbn
          clear hBa hr5 hg5 hm5 hgb HUA4 HLP4 HLP
          go_upto_region 20 with (first
            | (go_at_call 14; refine hbn.mono ?_; rintro e2 w6 ⟨rfl, hin6, hF6⟩; have HLP6 : Hid (LP w w6 w.heap.size q c pa hba pb hbb T4 Tb (taC n1 n2 ((hst q c e xs j).sent q c)) (saH q ((hst q c e xs j).sent q c)) (tbC n1 n2 (hst q c e xs j)) (.slice ao5 (nu + 1) ca5) (.slice bo nv cb) (us ++ [u]) vs (win q c e xs j ++ [(hst q c e xs j)])) := HLP5.out.stepB hin6 hF6; clear hin6 hF6)
            | (at_builtin; refine urow_push rfl _ _ rfl (.slice bo nv cb) vs rfl (HLP6.out.r2.below ((Below.refl _ _).alloc (Nat.le_refl _) _)) ⟨w6.heap.size, 0, none⟩ (uC gb 127 true true 0 (.slice none 0 0)) 1 rfl (unit_lit w6 (uC gb 127 true true 0 (.slice none 0 0))) rfl (uC_one _ _ _ _ _ _ _ _) (by omega) ?_; intro v7 w7 hr7 hg7 hm7))
          have hBb : Below w6.heap.size w6 (w6.alloc (.cells #[.int .u8 gb, .int .u8 127, .bool true, .bool true, .int .u8 0, .int .u8 0, .bool false, .slice none 0 0] 32)) := (Below.refl _ _).alloc (Nat.le_refl _) _
          rw [← HUB.out] at hr7
          have hLP7 : LP w w7 w.heap.size q c pa hba pb hbb T4 Tb (taC n1 n2 ((hst q c e xs j).sent q c)) (saH q ((hst q c e xs j).sent q c)) (tbC n1 n2 (hst q c e xs j)) (.slice ao5 (nu + 1) ca5) v7 (us ++ [u]) (vs ++ [UB (hst q c e xs j)]) (win q c e xs j ++ [(hst q c e xs j)]) :=
            (HLP6.out.below hBb).push2 hr7 hg7 hm7
          obtain ⟨bo7, cb7, rfl, hcb7⟩ := hr7.form' (n := nv + 1) (by simp [← HNV.out])
          have hvs7 : vs ++ [UB (hst q c e xs j)] = (win q c e xs j ++ [(hst q c e xs j)]).map UB := by rw [HVS.out, List.map_append]; rfl
          obtain ⟨us7, hus7⟩ : ∃ us7, us7 = us ++ [u] := ⟨_, rfl⟩
          rw [← hus7] at hLP7
          rw [hvs7] at hLP7
          have hho := chold_any _ _ _ _ _ _ _ hLP7.a
          have hse := sent_any _ _ _ _ _ hLP7.a.hold
          have hwa := waiting_any _ _ _ _ _ hLP7.a.hold
          have esn : (saH q ((hst q c e xs j).sent q c)).sent.length = m0 := by
            show (mgr ((hst q c e xs j).sent q c).f ((hst q c e xs j).sent q c).S).length = m0
            rw [mgr_len, HM0.out.2.1, HM0.out.1]
          have esz : sz (saH q ((hst q c e xs j).sent q c)).sent = 3 * m0 := by
            show sz (mgr ((hst q c e xs j).sent q c).f ((hst q c e xs j).sent q c).S) = 3 * m0
            have := sz_mgr ((hst q c e xs j).sent q c).f m0
            rw [show ((hst q c e xs j).sent q c).f + m0 = ((hst q c e xs j).sent q c).S by have := HM0.out; omega] at this
            exact this
          rw [esn] at hse
          rw [esz] at hwa
          have hb1 := HBN.out.b1
          have hb2 := HBN.out.b2
          have d1 : decide ((m0 : Int) > n1) = false := decide_eq_false (by omega)
          have d1' : decide (n1 < (m0 : Int)) = false := decide_eq_false (by omega)
          have d2 : decide (n2 < 3 * (m0 : Int)) = false := decide_eq_false (by omega)
          have HLP7 : Hid (LP w w7 w.heap.size q c pa hba pb hbb T4 Tb (taC n1 n2 ((hst q c e xs j).sent q c)) (saH q ((hst q c e xs j).sent q c)) (tbC n1 n2 (hst q c e xs j)) (.slice ao5 (nu + 1) ca5) (.slice bo7 (nv + 1) cb7) us7 ((win q c e xs j ++ [(hst q c e xs j)]).map UB) (win q c e xs j ++ [(hst q c e xs j)])) := hLP7
          clear hBb hr7 hg7 hm7 HUB HLP5 HLP6 hbn hvs7 hus7 hul6 hvl6 hca hcb hLP7 esn esz hb1 hb2
          go_cut [103] from 86 to 103 (fun v W => v = .bool false ∧ W = w7)
          case first =>
            by_cases hm1 : 1 < m0
            all_goals
              go_wp2_with (first
                | (go_at_call 10; refine hho.mono ?_; rintro e2 w8 ⟨rfl, hw8⟩; obtain rfl := hw8.symm; clear hw8)
                | (go_at_call 20; refine hse.mono ?_; rintro e2 w8 ⟨rfl, hw8⟩; obtain rfl := hw8.symm; clear hw8)
                | (go_at_call 24; refine hwa.mono ?_; rintro e2 w8 ⟨rfl, hw8⟩; obtain rfl := hw8.symm; clear hw8))
              go_meet
              case rel => first | exact ⟨rfl, rfl⟩ | exact ⟨by rw [d2], rfl⟩
          case rest =>
            obtain ⟨rfl, rfl⟩ := hcut
            clear hho hse hwa d1 d1' d2
            go_upto_region 22 with fail
            have hLP7 := HLP7.out
            have hrun := hst_run q c e xs
            by_cases hje : j < e
            · have hnu : nu < e := by have := HUL.out; omega
              rw [win_early q c e xs j hje] at hLP7
              have hn := hrun.next j
              obtain ⟨e1, e2⟩ := hrun.early j hje
              rw [e1, e2] at hn
              have HLR : Hid (LR q c e n1 n2 xs w w.heap.size pa hba pb hbb (.slice ao5 (nu + 1) ca5) (.slice bo7 (nv + 1) cb7) (j + 1) wc) := by
                refine ⟨T4, Tb, us7, _, ?_, rfl⟩
                rw [hn, (a_none _ _ _ _ _ _ _).1, (a_none _ _ n1 n2 _ _ _).2, (b_none _ _ _ _ _ _ _).1]
                exact hLP7
              have HG : Hid ((hst q c e xs (j + 1)).g = (hst q c e xs j).g) := by show _ = _; rw [hn, (b_none _ _ n1 n2 _ _ _).2]
              clear hLP7 hrun hn e1 e2
              go_wp2_with fail
              go_roundw
              case rel => exact ⟨j + 1, by omega, by go_num, by rw [HG.out], HLR.out⟩
              case measure => simp [intOf]; omega
            · have hej : e ≤ j := by omega
              have hnu : e = nu := by have := HUL.out; omega
              have hnv : e = nv := by have := HVL.out; omega
              clear HUL HVL
              subst hnu
              subst hnv
              rw [win_late q c e xs j hej] at hLP7
              obtain ⟨o, ho⟩ : ∃ o, o = hst q c e xs (j - e) := ⟨_, rfl⟩
              rw [← ho, List.map_cons] at hLP7
              obtain ⟨u0, us8, rfl⟩ : ∃ u0 us8, us7 = u0 :: us8 := by
                cases us7 with
                | nil => exact hLP7.e1.elim
                | cons u0 us8 => exact ⟨u0, us8, rfl⟩
              obtain ⟨g7, off7, rfl, hld1⟩ := hLP7.r1.head
              obtain ⟨W8, hst8, hB8, hh8⟩ := kept_any wc u0 (hLP7.r1.1 u0 (by simp)).1 (hLP7.r1.1 u0 (by simp)).2
              have hLP8 := hLP7.below hB8
              obtain ⟨g8, off8, rfl, hld2⟩ := hLP8.r2.head
              obtain ⟨W9, hst9, hB9, hh9⟩ := kept_any W8 (UB o) (hLP8.r2.1 (UB o) (by simp)).1 (hLP8.r2.1 (UB o) (by simp)).2
              have hLP9 := hLP8.below hB9
              have hh8' := (hB9.block _ (heap_lt hh8)).trans hh8
              obtain ⟨hLP10, hUA⟩ := hLP9.tail
              simp only [Nat.add_sub_cancel, Option.map_some, Addr.add_lit] at hLP10
              have HO : Hid (o = hst q c e xs (j - e)) := ho
              have h8 : u0.size = 8 := (hLP7.r1.1 u0 (by simp)).1
              have HH9 : Hid (W9.heap[wc.heap.size]? = some (.cells u0 32 (0, 0)) ∧ W9.heap[W8.heap.size]? = some (.cells (UB o) 32 (0, 0))) := ⟨hh8', hh9⟩
              have hldA := (ld_unit hh8' h8).1
              have hldB := (ld_unit hh9 rfl).1
              clear ho
              go_upto_region 27 with fail
              obtain ⟨v1, hv1⟩ : ∃ v1, v1 = Value.slice (if ca5 = 1 then some ⟨g7, off7, none⟩ else some ⟨g7, off7 + 8, none⟩) e (ca5 - 1) := ⟨_, rfl⟩
              obtain ⟨v2, hv2⟩ : ∃ v2, v2 = Value.slice (if cb7 = 1 then some ⟨g8, off8, none⟩ else some ⟨g8, off8 + 8, none⟩) e (cb7 - 1) := ⟨_, rfl⟩
              rw [← hv1, ← hv2] at hLP10
              rw [← hv1, ← hv2]
              have HLP9 : Hid (LP w W9 w.heap.size q c pa hba pb hbb T4 Tb (taC n1 n2 ((hst q c e xs j).sent q c)) (saH q ((hst q c e xs j).sent q c)) (tbC n1 n2 (hst q c e xs j)) v1 v2 us8 ((win q c e xs (j + 1)).map UB) (win q c e xs (j + 1))) := hLP10
              have HUA9 : Hid (UA W9 w.heap.size q c u0 o) := hUA
              have HRUN : Hid (∀ rb ra, rbF xs e j = rb → raF xs e j = ra → hst q c e xs (j + 1) = (hst q c e xs j).step q c rb ra o) := fun rb ra h1 h2 => by rw [hrun.next j, h1, h2, HO.out]
              have HF : Hid ((∀ i, o.out q c = some i → i < q) ∧ (hst q c e xs j).g < 20 ∧ (hst q c e xs j).f ≤ o.g ∧ o.g ≤ (hst q c e xs j).S) := by
                have c1 := hrun.counts j
                have c2 := hrun.counts (j - e)
                have gg := hrun.g_le (Nat.sub_le j e)
                have sS := hrun.S_le (Nat.sub_le j e)
                have sS2 := hrun.S_le (Nat.sub_le (j - e) e)
                have f1 := (hrun.fine j).Sk
                rw [HO.out]
                exact ⟨fun i hi => (out_in (hrun.fine (j - e)) hi).2.2, by omega, c1.1, by omega⟩
              clear hLP7 hLP8 hLP9 hLP10 hUA hh8 hh8' hh9 hB8 hB9 hld1 hld2 hst8 hst9 hv1 hv2 hrun hje
              by_cases hi : j < xs.length
              · have hij : j < len := by have := HLEN.out; omega
                obtain ⟨ga, oa, rfl, hcz⟩ := (HRD.out.below (Nat.le_refl _) HLP9.out.low).byte j hi
                obtain ⟨z, hz⟩ : ∃ z, z = xs[j] := ⟨_, rfl⟩
                rw [← hz] at hcz
                have hz2 := HXS.out z (by rw [hz]; exact List.getElem_mem hi)
                have hloss0 : lossAt xs j = z % 4 := by unfold lossAt; rw [if_pos hi, hz]; simp [List.getD, hi]
                clear hz hi
                have h4 : z % 4 = 0 ∨ z % 4 = 1 ∨ z % 4 = 2 ∨ z % 4 = 3 := by omega
                rcases h4 with h4 | h4 | h4 | h4
                · have hloss : lossAt xs j = 0 := hloss0.trans h4
                  clear hloss0
                  have hn := HRUN.out true true (by unfold rbF; rw [hloss]; simp [hej]) (by unfold raF; rw [hloss]; simp [hej])
                  have HN : Hid (hst q c e xs (j + 1) = (hst q c e xs j).step q c true true o) := hn
                  clear hn hloss
                  obtain ⟨fu, ku, mu, nu2, cu, hu0⟩ := HUA9.out.form
                  have hba0 := b_answer pb hbb w.heap.size n1 n2 Tb (hst q c e xs j) fu ku (.slice mu nu2 cu) W9 HLP9.out.b
                  rw [← hu0] at hba0
                  clear hu0
                  go_wp2_with fail
                  refine hba0.mono ?_
                  rintro e2 w10 ⟨rfl, T10, hin10, hF10⟩
                  have hh10 := (hF10.block _ (heap_lt HH9.out.1) (HLP9.out.b.at_.not37 _ _ HH9.out.1)).trans HH9.out.1
                  have hh10' := (hF10.block _ (heap_lt HH9.out.2) (HLP9.out.b.at_.not37 _ _ HH9.out.2)).trans HH9.out.2
                  have hua10 := HUA9.out.keep (fun g cur hg => hF10.block g (heap_lt hg) (HLP9.out.b.at_.not5 g cur hg))
                  have HLP10 : Hid (LP w w10 w.heap.size q c pa hba pb hbb T4 T10 (taC n1 n2 ((hst q c e xs j).sent q c)) (saH q ((hst q c e xs j).sent q c)) (tbC n1 n2 (hst q c e xs j)) v1 v2 us8 ((win q c e xs (j + 1)).map UB) (win q c e xs (j + 1))) := HLP9.out.stepB hin10 hF10
                  have hldD := (ld_unit hh10 h8).1
                  have HH10 : Hid (w10.heap[W8.heap.size]? = some (.cells (UB o) 32 (0, 0))) := hh10'
                  have hbt := b_take pb hbb w.heap.size q c n1 n2 T10 (hst q c e xs j) o true u0 w10 HLP10.out.b hua10 HF.out.1 HF.out.2.1
                  clear hin10 hF10 hh10 hh10' hua10 hba0 hldA hldB
                  go_wp2_with fail
                  refine hbt.mono ?_
                  rintro e2 w11 ⟨vv, ok, rfl, hok, hgs, hin11, hF11⟩
                  have hh11 := (hF11.block _ (heap_lt HH10.out) (HLP10.out.b.at_.not37 _ _ HH10.out)).trans HH10.out
                  have HLP11 : Hid (LP w w11 w.heap.size q c pa hba pb hbb T4 T10 (taC n1 n2 ((hst q c e xs j).sent q c)) (saH q ((hst q c e xs j).sent q c)) (tbC n1 n2 ((hst q c e xs j).step q c true true o)) v1 v2 us8 ((win q c e xs (j + 1)).map UB) (win q c e xs (j + 1))) := HLP10.out.stepB hin11 hF11
                  have hldB := (ld_unit hh11 rfl).1
                  have HGS : Hid (((hst q c e xs j).step q c true true o).g = (if ok then (hst q c e xs j).g + 1 else (hst q c e xs j).g)) := hgs
                  clear hin11 hF11 hh11 hbt hldD hgs
                  cases ok
                  · clear hok
                    have haa := a_answer pa hba w.heap.size q c n1 n2 T4 (hst q c e xs j) o true w11 HLP11.out.a HFI.out hk20 HF.out.2.2.1 HF.out.2.2.2
                    go_wp2_with fail
                    refine haa.mono ?_
                    rintro e2 w12 ⟨rfl, T12, hin12, hF12⟩
                    have HLP12 : Hid (LP w w12 w.heap.size q c pa hba pb hbb T12 T10 (taC n1 n2 ((hst q c e xs j).step q c true true o)) (saH q ((hst q c e xs j).step q c true true o)) (tbC n1 n2 ((hst q c e xs j).step q c true true o)) v1 v2 us8 ((win q c e xs (j + 1)).map UB) (win q c e xs (j + 1))) := HLP11.out.stepA hin12 hF12
                    clear hin12 hF12 haa hldB
                    have hLR : LR q c e n1 n2 xs w w.heap.size pa hba pb hbb v1 v2 (j + 1) w12 := by
                      refine ⟨T12, T10, us8, _, ?_, rfl⟩
                      rw [HN.out]
                      exact HLP12.out
                    have hg1 : (hst q c e xs (j + 1)).g = (hst q c e xs j).g := by rw [HN.out, HGS.out]; rfl
                    have HLR : Hid (LR q c e n1 n2 xs w w.heap.size pa hba pb hbb v1 v2 (j + 1) w12) := hLR
                    have HG1 : Hid _ := hg1
                    clear hLR hg1
                    go_wp2_with fail
                    go_roundw
                    case rel => exact ⟨j + 1, by omega, by go_num, by rw [HG1.out], HLR.out⟩
                    case measure => simp [intOf]; omega
                  · obtain ⟨hgk, mm, cm, rfl, gm, om, rfl, hcm⟩ := hok rfl
                    clear hok
                    have haa := a_answer pa hba w.heap.size q c n1 n2 T4 (hst q c e xs j) o true w11 HLP11.out.a HFI.out hk20 HF.out.2.2.1 HF.out.2.2.2
                    go_wp2_with fail
                    refine haa.mono ?_
                    rintro e2 w12 ⟨rfl, T12, hin12, hF12⟩
                    have HLP12 : Hid (LP w w12 w.heap.size q c pa hba pb hbb T12 T10 (taC n1 n2 ((hst q c e xs j).step q c true true o)) (saH q ((hst q c e xs j).step q c true true o)) (tbC n1 n2 ((hst q c e xs j).step q c true true o)) v1 v2 us8 ((win q c e xs (j + 1)).map UB) (win q c e xs (j + 1))) := HLP11.out.stepA hin12 hF12
                    clear hin12 hF12 haa hldB
                    have hLR : LR q c e n1 n2 xs w w.heap.size pa hba pb hbb v1 v2 (j + 1) w12 := by
                      refine ⟨T12, T10, us8, _, ?_, rfl⟩
                      rw [HN.out]
                      exact HLP12.out
                    have hg1 : (hst q c e xs (j + 1)).g = (hst q c e xs j).g + 1 := by rw [HN.out, HGS.out]; rfl
                    have HLR : Hid (LR q c e n1 n2 xs w w.heap.size pa hba pb hbb v1 v2 (j + 1) w12) := hLR
                    have HG1 : Hid _ := hg1
                    clear hLR hg1
                    go_wp2_with fail
                    go_roundw
                    case rel => exact ⟨j + 1, by omega, by go_num, by rw [HG1.out]; go_num, HLR.out⟩
                    case measure => simp [intOf]; omega
                · have hloss : lossAt xs j = 1 := hloss0.trans h4
                  clear hloss0
                  have hn := HRUN.out false true (by unfold rbF; rw [hloss]; simp [hej]) (by unfold raF; rw [hloss]; simp [hej])
                  have HN : Hid (hst q c e xs (j + 1) = (hst q c e xs j).step q c false true o) := hn
                  clear hn hloss
                  have haa := a_answer pa hba w.heap.size q c n1 n2 T4 (hst q c e xs j) o false W9 HLP9.out.a HFI.out hk20 HF.out.2.2.1 HF.out.2.2.2
                  go_wp2_with fail
                  refine haa.mono ?_
                  rintro e2 w12 ⟨rfl, T12, hin12, hF12⟩
                  have HLP12 : Hid (LP w w12 w.heap.size q c pa hba pb hbb T12 Tb (taC n1 n2 ((hst q c e xs j).step q c false true o)) (saH q ((hst q c e xs j).step q c false true o)) (tbC n1 n2 (hst q c e xs j)) v1 v2 us8 ((win q c e xs (j + 1)).map UB) (win q c e xs (j + 1))) := HLP9.out.stepA hin12 hF12
                  clear hin12 hF12 haa hldB
                  have hLR : LR q c e n1 n2 xs w w.heap.size pa hba pb hbb v1 v2 (j + 1) w12 := by
                    refine ⟨T12, Tb, us8, _, ?_, rfl⟩
                    rw [HN.out]
                    rw [(b_none _ _ _ _ _ _ _).1]
                    exact HLP12.out
                  have hg1 : (hst q c e xs (j + 1)).g = (hst q c e xs j).g := by rw [HN.out, (b_none _ _ n1 n2 _ _ _).2]
                  have HLR : Hid (LR q c e n1 n2 xs w w.heap.size pa hba pb hbb v1 v2 (j + 1) w12) := hLR
                  have HG1 : Hid _ := hg1
                  clear hLR hg1
                  go_wp2_with fail
                  go_roundw
                  case rel => exact ⟨j + 1, by omega, by go_num, by rw [HG1.out], HLR.out⟩
                  case measure => simp [intOf]; omega
                · have hloss : lossAt xs j = 2 := hloss0.trans h4
                  clear hloss0
                  have hn := HRUN.out true false (by unfold rbF; rw [hloss]; simp [hej]) (by unfold raF; rw [hloss]; simp [hej])
                  have HN : Hid (hst q c e xs (j + 1) = (hst q c e xs j).step q c true false o) := hn
                  clear hn hloss
                  obtain ⟨fu, ku, mu, nu2, cu, hu0⟩ := HUA9.out.form
                  have hba0 := b_answer pb hbb w.heap.size n1 n2 Tb (hst q c e xs j) fu ku (.slice mu nu2 cu) W9 HLP9.out.b
                  rw [← hu0] at hba0
                  clear hu0
                  go_wp2_with fail
                  refine hba0.mono ?_
                  rintro e2 w10 ⟨rfl, T10, hin10, hF10⟩
                  have hh10 := (hF10.block _ (heap_lt HH9.out.1) (HLP9.out.b.at_.not37 _ _ HH9.out.1)).trans HH9.out.1
                  have hh10' := (hF10.block _ (heap_lt HH9.out.2) (HLP9.out.b.at_.not37 _ _ HH9.out.2)).trans HH9.out.2
                  have hua10 := HUA9.out.keep (fun g cur hg => hF10.block g (heap_lt hg) (HLP9.out.b.at_.not5 g cur hg))
                  have HLP10 : Hid (LP w w10 w.heap.size q c pa hba pb hbb T4 T10 (taC n1 n2 ((hst q c e xs j).sent q c)) (saH q ((hst q c e xs j).sent q c)) (tbC n1 n2 (hst q c e xs j)) v1 v2 us8 ((win q c e xs (j + 1)).map UB) (win q c e xs (j + 1))) := HLP9.out.stepB hin10 hF10
                  have hldD := (ld_unit hh10 h8).1
                  have HH10 : Hid (w10.heap[W8.heap.size]? = some (.cells (UB o) 32 (0, 0))) := hh10'
                  have hbt := b_take pb hbb w.heap.size q c n1 n2 T10 (hst q c e xs j) o false u0 w10 HLP10.out.b hua10 HF.out.1 HF.out.2.1
                  clear hin10 hF10 hh10 hh10' hua10 hba0 hldA hldB
                  go_wp2_with fail
                  refine hbt.mono ?_
                  rintro e2 w11 ⟨vv, ok, rfl, hok, hgs, hin11, hF11⟩
                  have hh11 := (hF11.block _ (heap_lt HH10.out) (HLP10.out.b.at_.not37 _ _ HH10.out)).trans HH10.out
                  have HLP11 : Hid (LP w w11 w.heap.size q c pa hba pb hbb T4 T10 (taC n1 n2 ((hst q c e xs j).sent q c)) (saH q ((hst q c e xs j).sent q c)) (tbC n1 n2 ((hst q c e xs j).step q c true false o)) v1 v2 us8 ((win q c e xs (j + 1)).map UB) (win q c e xs (j + 1))) := HLP10.out.stepB hin11 hF11
                  have hldB := (ld_unit hh11 rfl).1
                  have HGS : Hid (((hst q c e xs j).step q c true false o).g = (if ok then (hst q c e xs j).g + 1 else (hst q c e xs j).g)) := hgs
                  clear hin11 hF11 hh11 hbt hldD hgs
                  cases ok
                  · clear hok
                    have hLR : LR q c e n1 n2 xs w w.heap.size pa hba pb hbb v1 v2 (j + 1) w11 := by
                      refine ⟨T4, T10, us8, _, ?_, rfl⟩
                      rw [HN.out]
                      rw [(a_none _ _ _ _ _ _ _).1, (a_none _ _ n1 n2 _ _ _).2]
                      exact HLP11.out
                    have hg1 : (hst q c e xs (j + 1)).g = (hst q c e xs j).g := by rw [HN.out, HGS.out]; rfl
                    have HLR : Hid (LR q c e n1 n2 xs w w.heap.size pa hba pb hbb v1 v2 (j + 1) w11) := hLR
                    have HG1 : Hid _ := hg1
                    clear hLR hg1
                    go_wp2_with fail
                    go_roundw
                    case rel => exact ⟨j + 1, by omega, by go_num, by rw [HG1.out], HLR.out⟩
                    case measure => simp [intOf]; omega
                  · obtain ⟨hgk, mm, cm, rfl, gm, om, rfl, hcm⟩ := hok rfl
                    clear hok
                    have hLR : LR q c e n1 n2 xs w w.heap.size pa hba pb hbb v1 v2 (j + 1) w11 := by
                      refine ⟨T4, T10, us8, _, ?_, rfl⟩
                      rw [HN.out]
                      rw [(a_none _ _ _ _ _ _ _).1, (a_none _ _ n1 n2 _ _ _).2]
                      exact HLP11.out
                    have hg1 : (hst q c e xs (j + 1)).g = (hst q c e xs j).g + 1 := by rw [HN.out, HGS.out]; rfl
                    have HLR : Hid (LR q c e n1 n2 xs w w.heap.size pa hba pb hbb v1 v2 (j + 1) w11) := hLR
                    have HG1 : Hid _ := hg1
                    clear hLR hg1
                    go_wp2_with fail
                    go_roundw
                    case rel => exact ⟨j + 1, by omega, by go_num, by rw [HG1.out]; go_num, HLR.out⟩
                    case measure => simp [intOf]; omega
                · have hloss : lossAt xs j = 3 := hloss0.trans h4
                  clear hloss0
                  have hn := HRUN.out false false (by unfold rbF; rw [hloss]; simp [hej]) (by unfold raF; rw [hloss]; simp [hej])
                  have HN : Hid (hst q c e xs (j + 1) = (hst q c e xs j).step q c false false o) := hn
                  clear hn hloss
                  have hLR : LR q c e n1 n2 xs w w.heap.size pa hba pb hbb v1 v2 (j + 1) W9 := by
                    refine ⟨T4, Tb, us8, _, ?_, rfl⟩
                    rw [HN.out]
                    rw [(a_none _ _ _ _ _ _ _).1, (a_none _ _ n1 n2 _ _ _).2]
                    rw [(b_none _ _ _ _ _ _ _).1]
                    exact HLP9.out
                  have hg1 : (hst q c e xs (j + 1)).g = (hst q c e xs j).g := by rw [HN.out, (b_none _ _ n1 n2 _ _ _).2]
                  have HLR : Hid (LR q c e n1 n2 xs w w.heap.size pa hba pb hbb v1 v2 (j + 1) W9) := hLR
                  have HG1 : Hid _ := hg1
                  clear hLR hg1
                  go_wp2_with fail
                  go_roundw
                  case rel => exact ⟨j + 1, by omega, by go_num, by rw [HG1.out], HLR.out⟩
                  case measure => simp [intOf]; omega
              · have hij : ¬ j < len := by have := HLEN.out; omega
                have hloss : lossAt xs j = 0 := by unfold lossAt; rw [if_neg hi]
                clear hi
                have hn := HRUN.out true true (by unfold rbF; rw [hloss]; simp [hej]) (by unfold raF; rw [hloss]; simp [hej])
                have HN : Hid (hst q c e xs (j + 1) = (hst q c e xs j).step q c true true o) := hn
                clear hn hloss
                obtain ⟨fu, ku, mu, nu2, cu, hu0⟩ := HUA9.out.form
                have hba0 := b_answer pb hbb w.heap.size n1 n2 Tb (hst q c e xs j) fu ku (.slice mu nu2 cu) W9 HLP9.out.b
                rw [← hu0] at hba0
                clear hu0
                go_wp2_with fail
                refine hba0.mono ?_
                rintro e2 w10 ⟨rfl, T10, hin10, hF10⟩
                have hh10 := (hF10.block _ (heap_lt HH9.out.1) (HLP9.out.b.at_.not37 _ _ HH9.out.1)).trans HH9.out.1
                have hh10' := (hF10.block _ (heap_lt HH9.out.2) (HLP9.out.b.at_.not37 _ _ HH9.out.2)).trans HH9.out.2
                have hua10 := HUA9.out.keep (fun g cur hg => hF10.block g (heap_lt hg) (HLP9.out.b.at_.not5 g cur hg))
                have HLP10 : Hid (LP w w10 w.heap.size q c pa hba pb hbb T4 T10 (taC n1 n2 ((hst q c e xs j).sent q c)) (saH q ((hst q c e xs j).sent q c)) (tbC n1 n2 (hst q c e xs j)) v1 v2 us8 ((win q c e xs (j + 1)).map UB) (win q c e xs (j + 1))) := HLP9.out.stepB hin10 hF10
                have hldD := (ld_unit hh10 h8).1
                have HH10 : Hid (w10.heap[W8.heap.size]? = some (.cells (UB o) 32 (0, 0))) := hh10'
                have hbt := b_take pb hbb w.heap.size q c n1 n2 T10 (hst q c e xs j) o true u0 w10 HLP10.out.b hua10 HF.out.1 HF.out.2.1
                clear hin10 hF10 hh10 hh10' hua10 hba0 hldA hldB
                go_wp2_with fail
                refine hbt.mono ?_
                rintro e2 w11 ⟨vv, ok, rfl, hok, hgs, hin11, hF11⟩
                have hh11 := (hF11.block _ (heap_lt HH10.out) (HLP10.out.b.at_.not37 _ _ HH10.out)).trans HH10.out
                have HLP11 : Hid (LP w w11 w.heap.size q c pa hba pb hbb T4 T10 (taC n1 n2 ((hst q c e xs j).sent q c)) (saH q ((hst q c e xs j).sent q c)) (tbC n1 n2 ((hst q c e xs j).step q c true true o)) v1 v2 us8 ((win q c e xs (j + 1)).map UB) (win q c e xs (j + 1))) := HLP10.out.stepB hin11 hF11
                have hldB := (ld_unit hh11 rfl).1
                have HGS : Hid (((hst q c e xs j).step q c true true o).g = (if ok then (hst q c e xs j).g + 1 else (hst q c e xs j).g)) := hgs
                clear hin11 hF11 hh11 hbt hldD hgs
                cases ok
                · clear hok
                  have haa := a_answer pa hba w.heap.size q c n1 n2 T4 (hst q c e xs j) o true w11 HLP11.out.a HFI.out hk20 HF.out.2.2.1 HF.out.2.2.2
                  go_wp2_with fail
                  refine haa.mono ?_
                  rintro e2 w12 ⟨rfl, T12, hin12, hF12⟩
                  have HLP12 : Hid (LP w w12 w.heap.size q c pa hba pb hbb T12 T10 (taC n1 n2 ((hst q c e xs j).step q c true true o)) (saH q ((hst q c e xs j).step q c true true o)) (tbC n1 n2 ((hst q c e xs j).step q c true true o)) v1 v2 us8 ((win q c e xs (j + 1)).map UB) (win q c e xs (j + 1))) := HLP11.out.stepA hin12 hF12
                  clear hin12 hF12 haa hldB
                  have hLR : LR q c e n1 n2 xs w w.heap.size pa hba pb hbb v1 v2 (j + 1) w12 := by
                    refine ⟨T12, T10, us8, _, ?_, rfl⟩
                    rw [HN.out]
                    exact HLP12.out
                  have hg1 : (hst q c e xs (j + 1)).g = (hst q c e xs j).g := by rw [HN.out, HGS.out]; rfl
                  have HLR : Hid (LR q c e n1 n2 xs w w.heap.size pa hba pb hbb v1 v2 (j + 1) w12) := hLR
                  have HG1 : Hid _ := hg1
                  clear hLR hg1
                  go_wp2_with fail
                  go_roundw
                  case rel => exact ⟨j + 1, by omega, by go_num, by rw [HG1.out], HLR.out⟩
                  case measure => simp [intOf]; omega
                · obtain ⟨hgk, mm, cm, rfl, gm, om, rfl, hcm⟩ := hok rfl
                  clear hok
                  have haa := a_answer pa hba w.heap.size q c n1 n2 T4 (hst q c e xs j) o true w11 HLP11.out.a HFI.out hk20 HF.out.2.2.1 HF.out.2.2.2
                  go_wp2_with fail
                  refine haa.mono ?_
                  rintro e2 w12 ⟨rfl, T12, hin12, hF12⟩
                  have HLP12 : Hid (LP w w12 w.heap.size q c pa hba pb hbb T12 T10 (taC n1 n2 ((hst q c e xs j).step q c true true o)) (saH q ((hst q c e xs j).step q c true true o)) (tbC n1 n2 ((hst q c e xs j).step q c true true o)) v1 v2 us8 ((win q c e xs (j + 1)).map UB) (win q c e xs (j + 1))) := HLP11.out.stepA hin12 hF12
                  clear hin12 hF12 haa hldB
                  have hLR : LR q c e n1 n2 xs w w.heap.size pa hba pb hbb v1 v2 (j + 1) w12 := by
                    refine ⟨T12, T10, us8, _, ?_, rfl⟩
                    rw [HN.out]
                    exact HLP12.out
                  have hg1 : (hst q c e xs (j + 1)).g = (hst q c e xs j).g + 1 := by rw [HN.out, HGS.out]; rfl
                  have HLR : Hid (LR q c e n1 n2 xs w w.heap.size pa hba pb hbb v1 v2 (j + 1) w12) := hLR
                  have HG1 : Hid _ := hg1
                  clear hLR hg1
                  go_wp2_with fail
                  go_roundw
                  case rel => exact ⟨j + 1, by omega, by go_num, by rw [HG1.out]; go_num, HLR.out⟩
                  case measure => simp [intOf]; omega
        · obtain ⟨hg, hf, hS⟩ := hst_last q c e xs j HBN.out.lo HBN.out.hi (by have := HLEN.out; omega) he5 hk20 (by omega)
          have hho := chold_any _ _ _ _ _ _ _ hLP.a
          have hse := sent_any _ _ _ _ _ hLP.a.hold
          have hne := next_any _ _ _ _ _ hLP.a.hold
          have e1 : (saH q (hst q c e xs j)).sent.length = 0 := by simp only [saH, mgr_len]; omega
          have e2 : (saH q (hst q c e xs j)).next.length = 0 := by simp only [saH, mgr_len]; omega
          rw [e1] at hse
          rw [e2] at hne
          rw [hg]
          have HB : Hid (Below w.heap.size w wr) := hLP.low
          clear hLP hvs hg hf hS e1 e2
          go_wp2_with (first
            | (go_at_call 10; refine hho.mono ?_; rintro e w3 ⟨rfl, hw3⟩; obtain rfl := hw3.symm; clear hw3)
            | (go_at_call 20; refine hse.mono ?_; rintro e w3 ⟨rfl, hw3⟩; obtain rfl := hw3.symm; clear hw3)
            | (go_at_call 25; refine hne.mono ?_; rintro e w3 ⟨rfl, hw3⟩; obtain rfl := hw3.symm; clear hw3))
          go_ret
          exact ⟨rfl, HB.out⟩
end Go.Proofs.Ytmnhciildlmjcaa.Tape
