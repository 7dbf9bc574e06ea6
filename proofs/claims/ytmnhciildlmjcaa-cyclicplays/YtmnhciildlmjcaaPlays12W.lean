/- CyclicPlays' walk. -/
import Derived.Test.YtmnhciildlmjcaaPlays12B
namespace Go.Proofs.Ytmnhciildlmjcaa.Tape
open Go.ChangeShapes Go.WideShapes Go.ChangeAt Go.RowKit
set_option linter.unusedVariables false
attribute [local go_sem ↓] ldS_def stS_def ldU_def stU_def

/-- A Side of the law's own turns. -/
theorem Twin.off {w w' : World} {p hb B S r : Nat} {m : Int} {T0 : Nat → Prop} {t : Cs} {s : Hs} {lo : Option Addr} {n cap : Nat} {cs : Array Value} (h : Twin w p hb B S m T0 t s lo n cap) (hg : w.grownBy w' (some r)) (hr : w.heap[r]? = some (.cells cs 28 (0, 0))) (hne : S ≠ r) : Twin w' p hb B S m T0 t s lo n cap :=
  ⟨⟨h.bes.cyc.offt hg hr (by decide) (by decide) (by decide) (by decide), h.bes.row.off hg hr (by decide) (by decide), h.bes.apart, Nat.le_trans h.bes.le hg.size, fun ad e => Nat.lt_of_lt_of_le (h.bes.lt ad e) hg.size⟩, (hg.block S (heap_lt h.blk) (fun e => hne (Option.some.inj e))).trans h.blk, h.most, h.oct⟩
theorem Hs.ans_same (s : Hs) (b : Int) : (s.ansH b).most = s.most ∧ (s.ansH b).oct = s.oct := by
  unfold Hs.ansH
  split <;> exact ⟨rfl, rfl⟩

set_option maxRecDepth 100000 in
set_option maxHeartbeats 4000000 in
theorem plays_walk (mo n1 n2 : Int) (a0 : Option Addr) (N cap0 : Nat) (w : World) (hm0 : 0 ≤ mo) (hm1 : mo ≤ 255) (ha0 : 0 ≤ n1) (ha1 : n1 ≤ 255) (ho0 : 0 ≤ n2) (ho1 : n2 ≤ 255) (hN : N ≤ maxLen) (hacts : Acts w a0 N) :
    Calls Try.prog 3 #[.int .u8 mo, .int .u8 n1, .int .u8 n2, .slice a0 N cap0] w fun e w' => e = .returned (.bool true) ∧ Below w.heap.size w w' := by
  have hN' : N ≤ 9223372036854775807 := hN
  clear hN
  by_cases h80 : 80 < N
  · go_enter Try.func3, Try.ntmps3
    go_wp2_with fail
    refine (awake12_any w).mono ?_
    rintro e w1 ⟨rfl, hB1⟩
    go_wp2_with fail
    refine (awake12_any w1).mono ?_
    rintro e w2 ⟨rfl, hB2⟩
    go_wp2
    go_ret
    exact ⟨rfl, hB1.trans (below_le hB2 hB1.size)⟩
  · obtain ⟨m, hm⟩ : ∃ m : Int, 1 + mo % 20 = m := ⟨_, rfl⟩
    obtain ⟨a, ha⟩ : ∃ a : Int, 1 + n1 % 10 = a := ⟨_, rfl⟩
    obtain ⟨o, ho⟩ : ∃ o : Int, 1 + n2 % 60 = o := ⟨_, rfl⟩
    have hm2 : 1 ≤ m ∧ m ≤ 20 := by omega
    have ha2 : 1 ≤ a ∧ a ≤ 10 := by omega
    have ho2 : 1 ≤ o ∧ o ≤ 60 := by omega
    go_enter Try.func3, Try.ntmps3
    go_wp2_with fail
    refine (awake12_any w).mono ?_
    rintro e w1 ⟨rfl, hB1⟩
    have e80 : decide ((80 : Int) < (N : Int)) = false := decide_eq_false (by omega)
    go_wp2_with fail
    try rw [e80]
    try rw [hm]
    try rw [ha]
    try rw [ho]
    refine (cnew_any m 5000 a o w.heap.size w1 (by omega) (by omega) (by omega) (by omega) hB1.size).mono ?_
    rintro e w2 ⟨p, hb, T2, rfl, hin2, hT2, hB2⟩
    clear hm ha ho hm0 hm1 ha0 ha1 ho0 ho1
    go_wp2_with fail
    refine (rside_any m a o w2).mono ?_
    rintro e w3 ⟨rfl, hB3⟩
    have hs1 := hB1.size
    have hs2 := hB2.size
    have hs3 := hB3.size
    obtain ⟨W, hst, hblk, hB4⟩ := keep_side w3 (sideC (.slice none 0 0) 0 0 m 5000 (tlC (cs0 a o))) rfl (sideC_one _ _ _ _ _ _ _ _)
    have htwin : Twins W p hb w.heap.size w3.heap.size m :=
      ⟨T2, cs0 a o, ⟨m, 5000, 0, [], []⟩, none, 0, 0, ⟨(hin2.below hB3).below hB4, ⟨[], RowAt.nil _, trivial⟩, fun ad e => absurd e (by simp), by have := hB4.size; omega, fun ad e => absurd e (by simp)⟩, hblk, rfl, rfl⟩
    have hB5 : Below w.heap.size w W := hB1.trans ((below_le hB2 hs1).trans ((below_le hB3 (by omega)).trans (below_le hB4 (by omega))))
    obtain ⟨S, hS⟩ : ∃ S, S = w3.heap.size := ⟨_, rfl⟩
    have hwS : w.heap.size ≤ S := by omega
    rw [← hS] at htwin
    clear hblk hB1 hB2 hB3 hB4 hs1 hs2 hs3 hin2 hT2
    go_wp2_with fail
    try rw [← hS]
    clear hst hS e80
    have hN80 : N ≤ 80 := by omega
    clear hN' h80
    go_loopw [14] (fun i wr => ∃ k : Nat, k ≤ N ∧ i = .int .i64 k ∧ Twins wr p hb w.heap.size S m ∧ Below w.heap.size w wr) (fun i _ => N - (intOf i).toNat)
    case atStart => exact ⟨0, by omega, rfl, htwin, hB5⟩
    case round =>
      clear htwin hB5
      obtain ⟨k, hk, rfl, htwin, hBr⟩ := hrel
      by_cases hlt : k < N
      · obtain ⟨g, off, rfl, K, A, b, f, ub, uf, kn, st, wd, ao, pn, pc, xs, ⟨d0, d1⟩, ⟨d2, d3, d4, d5, d6, d7, d8, d9⟩, hK, hA, hb2, hf2, hkn, hxl, hpn, hcap, hrd, hxs⟩ := hacts k hlt
        have hCr := hBr.size
        have d0' := (hBr.cell (World.block_lt_of_cell? w _ d0)).trans d0
        have d1' := (hBr.cell (World.block_lt_of_cell? w _ d1)).trans d1
        have d2' := (hBr.cell (World.block_lt_of_cell? w _ d2)).trans d2
        have d3' := (hBr.cell (World.block_lt_of_cell? w _ d3)).trans d3
        have d4' := (hBr.cell (World.block_lt_of_cell? w _ d4)).trans d4
        have d5' := (hBr.cell (World.block_lt_of_cell? w _ d5)).trans d5
        have d6' := (hBr.cell (World.block_lt_of_cell? w _ d6)).trans d6
        have d7' := (hBr.cell (World.block_lt_of_cell? w _ d7)).trans d7
        have d8' := (hBr.cell (World.block_lt_of_cell? w _ d8)).trans d8
        have d9' := (hBr.cell (World.block_lt_of_cell? w _ d9)).trans d9
        obtain ⟨W, hW⟩ : ∃ W, W = wr.alloc (.cells #[.int .u8 K, .int .u8 A, .int .u8 b, .int .u8 f, .bool ub, .bool uf, .int .u8 kn, .int .u8 st, .bool wd, .slice ao pn pc] 34) := ⟨_, rfl⟩
        have hBW : Below wr.heap.size wr W := by rw [hW]; exact (Below.refl _ _).alloc (Nat.le_refl _) _
        have hxb : W.heap[wr.heap.size]? = some (.cells #[.int .u8 K, .int .u8 A, .int .u8 b, .int .u8 f, .bool ub, .bool uf, .int .u8 kn, .int .u8 st, .bool wd, .slice ao pn pc] 34 (0, 0)) := by rw [hW]; exact heap_alloc_new wr _
        obtain ⟨X, hX⟩ : ∃ X, X = wr.heap.size := ⟨_, rfl⟩
        have htw : Twins W p hb w.heap.size S m := by
          obtain ⟨T0, t, s, lo, n, cap, ht⟩ := htwin
          exact ⟨T0, t, s, lo, n, cap, ht.below hBW⟩
        have hBX : Below w.heap.size w W := hBr.trans (below_le hBW hCr)
        have hrW : Reads W ao (xs.map (.int .u8)) := hrd.below (Nat.le_refl _) hBX
        have hXs : X < W.heap.size := by rw [hX]; exact heap_lt hxb
        have hwX : w.heap.size ≤ X := by omega
        go_upto_region 12 with fail
        rw [← hW, ← hX]
        rw [← hX] at hxb
        obtain ⟨x0, x1, x9, x2⟩ := act_ten hxb
        clear hW hX hBW hBr htwin d0 d1 d2 d3 d4 d5 d6 d7 d8 d9 d0' d1' d2' d3' d4' d5' d6' d7' d8' d9' hCr
        by_cases h100 : 100 < pn
        · go_wp2
          go_ret
          exact ⟨rfl, hBX⟩
        · have hp100 : pn ≤ 100 := by omega
          obtain ⟨q, hq⟩ : ∃ q : Int, K % 10 = q := ⟨_, rfl⟩
          have hq0 : 0 ≤ q := by omega
          have hq1 : q < 10 := by omega
          have e100 : decide ((100 : Int) < (pn : Int)) = false := decide_eq_false (by omega)
          go_upto_block 2 with fail
          try rw [e100]
          try rw [hq]
          clear e100 h100 hq
          obtain ⟨T0, t, s, lo, n, cap, ht⟩ := htw
          have HX : Hid (X < W.heap.size ∧ w.heap.size ≤ X) := ⟨hXs, hwX⟩
          obtain ⟨hn20, hP20, hF128, hpl, hl0, hl1, -⟩ := ht.small hm2.2
          have HB : Hid (Below w.heap.size w W) := hBX
          have HT : Hid (Twin W p hb w.heap.size S m T0 t s lo n cap) := ht
          clear ht hBX hXs hwX
          go_cut [] from 61 to 246 (fun wc => Twins wc p hb w.heap.size S m ∧ Below w.heap.size w wc)
          case first =>
            by_cases q3 : q < 3
            · as_aux_lemma =>
                obtain ⟨kk, hkk⟩ : ∃ kk : Nat, 3 + A % 9 = kk := ⟨(3 + A % 9).toNat, by omega⟩
                have hkk2 : 3 ≤ kk ∧ kk ≤ 11 := by omega
                have k1 : IntKind.u8.wrap (k : Int) = k := by rw [IntKind.wrap_u8]; omega
                have hmk := run_make_row' (P := Try.prog) 30 5 (.int .u8 0) 1 Try.underlying30 info5b rfl .i64 .i64 kk (by omega) (by omega)
                obtain ⟨⟨c, y0⟩, yz, hmsg, hBm⟩ := made_oct W k kk w.heap.size (by omega) (by omega) (by omega) (by omega) HB.out.size
                have yz0 := yz 0
                obtain ⟨W2, hW2⟩ : ∃ W2, W2 = W.alloc (.cells ((madeCells #[.int .u8 0] kk).setIfInBounds 0 (.int .u8 k)) 5) := ⟨_, rfl⟩
                have hsa : (W.alloc (.cells (madeCells #[.int .u8 0] kk) 5)).setCell ⟨W.heap.size, 0, none⟩ (.int .u8 k) = W2 := by rw [hW2]; exact set_new _ _ _ _
                rw [hsa] at hmsg hBm
                clear hsa
                have hbes2 := HT.out.bes.below hBm
                have hblk2 := (hBm.block S (heap_lt HT.out.blk)).trans HT.out.blk
                have hld2 := (ld_side hblk2 rfl).1
                have hlen := oct_len (k : Int) (show 1 ≤ kk by omega)
                have hput9 := rput_p (tlC t) hbes2.row (by omega) hbes2.le (some ⟨W.heap.size, 0, none⟩) kk kk (oct k kk) hlen (by omega) (by omega) hmsg
                rw [HT.out.most, HT.out.oct] at hput9
                have HM2 : Hid (Below W.heap.size W W2 ∧ Bes W2 p hb w.heap.size T0 t s lo n cap (s.sent ++ s.next) ∧ HMsg W2 w.heap.size (.slice (some ⟨W.heap.size, 0, none⟩) kk kk) (oct k kk) ∧ (oct k kk).length = kk ∧ W2.heap[S]? = some (.cells (sideC (.slice lo n cap) s.sent.length s.first m 5000 (tlC t)) 28 (0, 0))) := ⟨hBm, hbes2, hmsg, hlen, hblk2⟩
                obtain ⟨E, hE⟩ : ∃ E, s.putE (oct k kk) = E := ⟨_, rfl⟩
                rw [hE] at hput9
                have HE : Hid (s.putE (oct k kk) = E) := hE
                have hA9 : 3 + A % 9 = (kk : Int) := hkk
                clear hE hkk hlen hbes2 hblk2 hmsg hBm yz
                go_upto_region 33 with fail
                rw [← hW2]
                clear hW2 y0 yz0 hmk x1 hA9
                go_wp2_with fail
                refine hput9.mono ?_
                rintro e w1 ⟨lo1, n1, cap1, rfl, hrow1, hlo1, hB1⟩
                obtain ⟨W3, hst, hblk3, hB3⟩ := keep_side w1 (sideC (.slice lo1 n1 cap1) s.sent.length s.first m 5000 (tlC t)) rfl (sideC_one _ _ _ _ _ _ _ _)
                have hbes1 := HM2.out.2.1.turn hB1 hrow1 hlo1
                have hbes3 := hbes1.below hB3
                have hs1 := hB1.size
                have hB13 := hB1.trans (below_le hB3 hs1)
                have hho := chold_any _ _ _ _ _ _ _ hbes3.cyc
                have hms3 := HM2.out.2.2.1.below hB13
                obtain ⟨mb, cb, curb, eb, hgb, -, -, hrd3⟩ := hms3.form
                have hpu := put_any hb w.heap.size T0 s (some ⟨W.heap.size, 0, none⟩) kk kk (oct k kk) W3 hbes3.cyc.hold HM2.out.2.2.2.1 (by omega) (Reads.of_owns (by simpa [HM2.out.2.2.2.1] using hms3.1)) hms3.2.2.2 hbes3.le
                rw [HE.out] at hpu
                have hS3 := (hB13.block S (heap_lt HM2.out.2.2.2.2)).trans HM2.out.2.2.2.2
                have H3 : Hid (Bes W3 p hb w.heap.size T0 t s lo1 n1 cap1 ((s.put (oct k kk)).sent ++ (s.put (oct k kk)).next) ∧ W3.heap[w1.heap.size]? = some (.cells (sideC (.slice lo1 n1 cap1) s.sent.length s.first m 5000 (tlC t)) 28 (0, 0)) ∧ W3.heap[S]? = some (.cells (sideC (.slice lo n cap) s.sent.length s.first m 5000 (tlC t)) 28 (0, 0)) ∧ Below w.heap.size w W3) := ⟨hbes3, hblk3, hS3, HB.out.trans (below_le (HM2.out.1.trans (below_le hB13 HM2.out.1.size)) HB.out.size)⟩
                clear hput9 hblk3 hrow1 hlo1 hB1 hB3 hbes1 hbes3 hs1 hB13 hms3 eb hgb hrd3 hS3 hld2
                go_wp2_with (first
                  | (go_at_call 10; refine hho.mono ?_; rintro e w4 ⟨rfl, hw4⟩; obtain rfl := hw4.symm; clear hw4)
                  | fail)
                refine hpu.mono ?_
                rintro e w4 ⟨rfl, T3, hat3, hF3⟩
                obtain ⟨hcy4, hF4⟩ := H3.out.1.cyc.step hat3 hF3
                have hbes4 := H3.out.1.step hcy4 hF4
                have hS4 := H3.out.1.other hF4 H3.out.2.2.1 (by decide) (by decide) (by decide)
                have hk4 := H3.out.1.other hF4 H3.out.2.1 (by decide) (by decide) (by decide)
                have hps := put_same s (oct k kk)
                obtain ⟨w5, hst5, htw5, hB5, -⟩ := Twin.step (m := m) (a := s.sent.length) (f := s.first) hbes4 hS4 rfl hwS (by rw [hps.2.1, HT.out.most]) (by rw [hps.2.2.1, HT.out.oct]) (by rw [hps.2.2.2]) (by rw [hps.1])
                have hld4 := (ld_side hk4 rfl).1
                have HF : Hid (Twins w5 p hb w.heap.size S m ∧ Below w.heap.size w w5) := ⟨⟨_, _, _, _, _, _, htw5⟩, H3.out.2.2.2.trans ((H3.out.1.cyc.fbelow hF4 (Nat.le_refl _) H3.out.1.le).trans hB5)⟩
                clear hpu hat3 hF3 hcy4 hF4 hbes4 hS4 hk4 hps htw5 hB5 hst hho
                go_wp2
                go_meet
                case rel => exact HF.out
            · by_cases q7 : q < 7
              · as_aux_lemma =>
                have hr12 := rnx_any s t m 5000 HT.out.bes.row (by omega) (by omega) hl0 hl1 hF128 (by omega)
                have hn14 := fun (Y : World) (hY : Below W.heap.size W Y) => cnext_any p hb w.heap.size T0 t s Y (HT.out.bes.cyc.below hY) (Nat.le_trans HB.out.size hY.size)
                have hns := nx_same t s
                generalize t.nx s = NX at hr12 hn14 hns
                obtain ⟨⟨t', s'⟩, F, I⟩ := NX
                simp only at hr12 hn14 hns
                have HN : Hid (∀ Y, Below W.heap.size W Y → Calls Try.prog 14 #[.pointer (some ⟨p, 0, none⟩)] Y fun e w' => ∃ v T1, e = .returned (.agg (uC t.last F true true (kd I) v)) ∧ InfoAt w' Y.heap.size v I ∧ CycIn w' p hb w.heap.size T1 t' s' ∧ Foot (fun g => g = p ∨ T0 g) (fun g => g = p ∨ T1 g) Y w') := hn14
                have HNS : Hid (s'.sent ++ s'.next = s.sent ++ s.next ∧ s'.first = s.first ∧ s'.most = s.most ∧ s'.oct = s.oct) := hns
                have hld := (ld_side HT.out.blk rfl).1
                clear hn14 hns x0 x1 x9 x2 hrW hxb
                go_wp2_with fail
                refine hr12.mono ?_
                rintro e w1 ⟨v, rfl, hi1, hB1⟩
                obtain ⟨ao1, vn1, vc1, rfl⟩ := hi1.form
                obtain ⟨Y1, Y2, hst1, hst2, hblk2, hu2, hB2⟩ := keep_both w1 (sideC (.slice lo n cap) s'.sent.length s.first m 5000 (tlC t')) rfl (sideC_one _ _ _ _ _ _ _ _) (uC t.last F true true (kd I) (.slice ao1 vn1 vc1)) rfl (uC_one _ _ _ _ _ _ _ _)
                have hs1 := hB1.size
                have hB12 := hB1.trans (below_le hB2 hs1)
                obtain ⟨V, hV⟩ : ∃ V, V = w1.heap.size := ⟨_, rfl⟩
                rw [← hV] at hblk2 hu2
                have H2 : Hid (Below W.heap.size W Y2 ∧ InfoAt Y2 w.heap.size (.slice ao1 vn1 vc1) I ∧ Y2.heap[V]? = some (.cells (sideC (.slice lo n cap) s'.sent.length s.first m 5000 (tlC t')) 28 (0, 0)) ∧ Y2.heap[V + 1]? = some (.cells (uC t.last F true true (kd I) (.slice ao1 vn1 vc1)) 32 (0, 0))) := ⟨hB12, hi1.keep fun g cur hg => hB2.block g (heap_lt hg), hblk2, hu2⟩
                go_upto_region 39 with fail
                try rw [← hV]
                clear hst1 hst2 hr12 hld hblk2 hu2 hB1 hB2 hi1 hs1 hB12 hV
                have HS : Hid (∀ Y : World, Y.heap[V + 1]? = Y2.heap[V + 1]? → (ldU (.pointer (some ⟨V + 1, 0, none⟩))).run Try.prog Y = .ok (.agg (uC t.last F true true (kd I) (.slice ao1 vn1 vc1))) Y) := fun Y hY => (ld_unit (hY.trans H2.out.2.2.2) rfl).1
                have hY0 : Y2.drew.heap[V + 1]? = Y2.heap[V + 1]? := rfl
                have hD : Below Y2.heap.size Y2 Y2.drew := (Below.refl _ _).drew
                have hWD : Below W.heap.size W Y2.drew := H2.out.1.trans (below_le hD H2.out.1.size)
                go_wp2_with fail
                go_region_held (fun Y => (ldU (.pointer (some ⟨V + 1, 0, none⟩))).run Try.prog Y = .ok (.agg (uC t.last F true true (kd I) (.slice ao1 vn1 vc1))) Y) ((refine HS.out _ ?_; assumption))
                  (first
                    | (go_at_call 14; refine (HN.out _ hWD).mono ?_; rintro e w4 ⟨v4, T4, rfl, hi4, hcy4, hF4⟩; have hY4 : w4.heap[V + 1]? = Y2.heap[V + 1]? := hF4.block _ (heap_lt H2.out.2.2.2) ((HT.out.bes.cyc.below hWD).at_.not37 _ _ H2.out.2.2.2); have hi5 := InfoAt.keep (w' := w4) H2.out.2.1 (fun g cur hg => hF4.block g (heap_lt hg) ((HT.out.bes.cyc.below hWD).at_.not5 g cur hg)))
                    | (go_at_call 13; refine (same_info _ _ _ _ _ _ _ hi4 hi5).mono ?_; rintro e w5 ⟨rfl, hB5⟩; have hY5 : w5.heap[V + 1]? = Y2.heap[V + 1]? := (hB5.block _ (heap_lt (hY4.trans H2.out.2.2.2))).trans hY4))
                have hbW := HT.out.bes.below hWD
                have hbes4 : Bes w4 p hb w.heap.size T4 t' s' lo n cap (s'.sent ++ s'.next) := by rw [HNS.out.1]; exact hbW.step hcy4 hF4
                have hS4 := hbW.other hF4 ((hWD.block S (heap_lt HT.out.blk)).trans HT.out.blk) (by decide) (by decide) (by decide)
                have hk4 := hbW.other hF4 (show Y2.drew.heap[V]? = _ from H2.out.2.2.1) (by decide) (by decide) (by decide)
                have hld5 := (ld_side ((hB5.block V (heap_lt hk4)).trans hk4) rfl).1
                obtain ⟨w6, hst6, htw6, hB6, -⟩ := Twin.step (m := m) (a := s'.sent.length) (f := s.first) (hbes4.below hB5) ((hB5.block S (heap_lt hS4)).trans hS4) rfl hwS (by rw [HNS.out.2.2.1, HT.out.most]) (by rw [HNS.out.2.2.2, HT.out.oct]) rfl (by rw [HNS.out.2.1])
                have HF : Hid (Twins w6 p hb w.heap.size S m ∧ Below w.heap.size w w6) := ⟨⟨_, _, _, _, _, _, htw6⟩, HB.out.trans ((below_le hWD HB.out.size).trans ((hbW.cyc.fbelow hF4 (Nat.le_refl _) hbW.le).trans ((below_le hB5 hbes4.le).trans hB6)))⟩
                clear hbW hbes4 hS4 hk4 htw6 hB6 hcy4 hF4 hi4 hi5 hB5 hY5 hY4 hY0 hD hWD
                go_wp2
                go_meet
                case rel => exact HF.out
              · as_aux_lemma =>
                have hu0 : (#[.int .u8 b, .int .u8 f, .bool ub, .bool uf, .int .u8 kn, .int .u8 st, .bool wd, .slice ao pn pc] : Array Value).all (·.oneCell') = true := by simp [Value.oneCell']
                obtain ⟨W1, hst1, hB1, hu1⟩ := kept_any W #[.int .u8 b, .int .u8 f, .bool ub, .bool uf, .int .u8 kn, .int .u8 st, .bool wd, .slice ao pn pc] rfl hu0
                obtain ⟨⟨-, -, -, -, u4, -, -, -⟩, uz⟩ := unit_cells hu1
                have z4 := uz 4
                obtain ⟨kd3, hkd3⟩ : ∃ kd3 : Int, kn % 3 = kd3 := ⟨_, rfl⟩
                have hk3 : 0 ≤ kd3 ∧ kd3 ≤ 2 := by omega
                obtain ⟨W2, hW2⟩ : ∃ W2, W2 = W1.setCell ⟨W.heap.size, 4, none⟩ (.int .u8 (kn % 3)) := ⟨_, rfl⟩
                have hu2 : W2.heap[W.heap.size]? = some (.cells #[.int .u8 b, .int .u8 f, .bool ub, .bool uf, .int .u8 (kn % 3), .int .u8 st, .bool wd, .slice ao pn pc] 32 (0, 0)) := by rw [hW2]; exact unit_kind hu1 _
                have hB2 : Below W.heap.size W W2 := by rw [hW2]; exact hB1.setCell (Nat.le_refl _) _
                rw [hkd3] at hu2
                obtain ⟨U, hU⟩ : ∃ U, U = W.heap.size := ⟨_, rfl⟩
                have HK3 : Hid (kn % 3 = kd3) := hkd3
                clear hkd3
                go_upto_region 17 with fail
                rw [← hW2, ← hU]
                rw [← hU] at hu2
                have HU : Hid (W.heap.size ≤ U ∧ Below W.heap.size W W2) := ⟨by omega, hB2⟩
                have x1' := (hB2.cell (World.block_lt_of_cell? W _ x1)).trans x1
                have hS2 := (hB2.block S (heap_lt HT.out.blk)).trans HT.out.blk
                obtain ⟨⟨-, c1, c2, -⟩, -⟩ := side_cells hS2
                obtain ⟨-, -, -, -, -, c10⟩ := (side_all hS2).1
                obtain ⟨⟨u0c, u1c, -⟩, uz2⟩ := unit_cells hu2
                have z0 := uz2 0
                have z1 := uz2 1
                have c10' : W2.cell? ⟨S, 10, none⟩ = some (.int .i64 t.last) := c10
                clear hW2 hU hst1 hu1 hB1 u4 z4 uz hu0 x0 x1 x9 x2 hB2 hS2 uz2 c10 hxb
                go_upto_if 87 with fail
                go_cut [] from 61 to 246 (fun wc => ∃ b' f' : Int, (0 ≤ b' ∧ b' ≤ 255) ∧ (0 ≤ f' ∧ f' ≤ 255) ∧ wc.heap[U]? = some (.cells #[.int .u8 b', .int .u8 f', .bool ub, .bool uf, .int .u8 kd3, .int .u8 st, .bool wd, .slice ao pn pc] 32 (0, 0)) ∧ Below W.heap.size W wc)
                case first =>
                  by_cases h40 : 40 ≤ A
                  · obtain ⟨P, hP⟩ : ∃ P : Nat, P = s.sent.length := ⟨_, rfl⟩
                    rw [← hP] at c1
                    have hP2 : P ≤ 20 := by omega
                    obtain ⟨la, hla⟩ : ∃ la : Int, la = t.last := ⟨_, rfl⟩
                    rw [← hla] at c10' hl0 hl1
                    have r1 : IntKind.i64.wrap ((s.first : Int) + 127) = (s.first : Int) + 127 := wrap_small _ (by omega) (by omega)
                    have r2 : IntKind.i64.wrap A = A := wrap_small _ (by omega) (by omega)
                    have r3 : IntKind.i64.wrap ((P : Int) + 1) = (P : Int) + 1 := wrap_small _ (by omega) (by omega)
                    have n3 : ¬ ((P : Int) + 1 = 0) := by omega
                    obtain ⟨R, hR⟩ : ∃ R : Int, A % ((P : Int) + 1) = R := ⟨_, rfl⟩
                    have hR2 : 0 ≤ R ∧ R ≤ 255 := by
                      have h1 := Int.emod_nonneg A n3
                      have h2 := Int.emod_lt_of_pos A (show (0 : Int) < (P : Int) + 1 by omega)
                      omega
                    clear hP hla
                    have r4 : IntKind.i64.wrap ((s.first : Int) + 127 + R) = (s.first : Int) + 127 + R := wrap_small _ (by omega) (by omega)
                    have r6 : IntKind.i64.wrap (A / 8) = A / 8 := wrap_small _ (by omega) (by omega)
                    have r7 : IntKind.i64.wrap (la + A / 8 % 3) = la + A / 8 % 3 := wrap_small _ (by omega) (by omega)
                    have r8 : IntKind.u8.wrap ((la + A / 8 % 3) % 128) = (la + A / 8 % 3) % 128 := by rw [IntKind.wrap_u8]; omega
                    have HR : Hid (A % ((P : Int) + 1) = R) := hR
                    have HU2 : Hid (W2.heap[U]? = some (.cells #[.int .u8 b, .int .u8 f, .bool ub, .bool uf, .int .u8 kd3, .int .u8 st, .bool wd, .slice ao pn pc] 32 (0, 0))) := hu2
                    clear hR2 hu2
                    go_wp2_with fail
                    go_region
                    all_goals
                      go_wp2
                      go_meet
                      case rel => exact ⟨_, _, ⟨by omega, by omega⟩, ⟨by omega, by omega⟩, unit_nums HU2.out _ _, ((HU.out.2.setCell HU.out.1 _).setCell HU.out.1 _).drew⟩
                  · have HW4 : Hid (W2.heap[U]? = some (.cells #[.int .u8 b, .int .u8 f, .bool ub, .bool uf, .int .u8 kd3, .int .u8 st, .bool wd, .slice ao pn pc] 32 (0, 0))) := hu2
                    clear c1 c2 c10' z0 z1 u0c u1c hu2
                    go_wp2
                    go_meet
                    case rel => exact ⟨b, f, hb2, hf2, HW4.out, HU.out.2⟩
                case rest =>
                  obtain ⟨b', f', hb', hf', hu3, hB3⟩ := hcut
                  have ht3 := HT.out.below hB3
                  have hs3 := hB3.size
                  have hld3 := (ld_side ht3.blk rfl).1
                  have hlu3 := (ld_unit hu3 rfl).1
                  have hra := ranswer_all (w := wc) (B := w.heap.size) s t m 5000 b' f' kd3 st ub uf wd (.slice ao pn pc) ht3.bes.row (by omega) (by omega) (by omega) hb'.1 hb'.2
                  have hca := fun (Y : World) (hY : CycIn Y p hb w.heap.size T0 t s) => canswer_all p hb w.heap.size T0 t s b' f' kd3 st ub uf wd (.slice ao pn pc) Y hY hb'.1 hb'.2
                  have hsa := s.ans_same b'
                  have hea : t.ansE s b' = 0 ∨ t.ansE s b' = 10 := by unfold Cs.ansE; split; exact .inl rfl; split; exact .inr rfl; exact .inl rfl
                  have hap : ∀ ad, ao = some ad → 0 < pn → ad.block ≠ p := fun ad e h0 hp => by
                    obtain ⟨g', o', e', hc'⟩ := hrd 0 (.int .u8 (xs[0]'(by omega))) (by rw [List.getElem?_map, List.getElem?_eq_getElem (by omega)]; rfl)
                    have h1 := World.block_lt_of_cell? w _ hc'
                    have h2 := ht3.bes.cyc.lowp
                    rw [e] at e'
                    cases e'
                    simp only at h1 hp
                    omega
                  generalize t.ansC s b' = t2 at hra hca
                  generalize s.ansH b' = s2 at hra hca hsa
                  generalize s.ansN b' = N2 at hra hca
                  generalize t.ansE s b' = E2 at hra hca hea
                  have HSA : Hid (s2.most = s.most ∧ s2.oct = s.oct) := hsa
                  clear hn20 hP20 hF128 hpl hl0 hl1 hsa
                  go_wp2_with fail
                  refine hra.mono ?_
                  rintro e w1 ⟨lo1, n1', cap1, rfl, hrow1, hlo1, hB1⟩
                  obtain ⟨W4, hst4, hblk4, hB4⟩ := keep_side w1 (sideC (.slice lo1 n1' cap1) s2.sent.length s2.first m 5000 (tlC t2)) rfl (sideC_one _ _ _ _ _ _ _ _)
                  have hbes1 := ht3.bes.turn hB1 hrow1 (fun ad e => .inl (hlo1 ad e))
                  have hbes4 := hbes1.below hB4
                  have hs1 := hB1.size
                  have hB14 := hB1.trans (below_le hB4 hs1)
                  have hS4 := (hB14.block S (heap_lt ht3.blk)).trans ht3.blk
                  have hu4 := (hB14.block U (heap_lt hu3)).trans hu3
                  have hlu4 := (ld_unit hu4 rfl).1
                  have hca4 := hca W4 hbes4.cyc
                  obtain ⟨V, hV⟩ : ∃ V, V = w1.heap.size := ⟨_, rfl⟩
                  rw [← hV] at hblk4
                  have hSU : S < V ∧ U < V := by
                    have h1 := heap_lt ht3.blk
                    have h2 := heap_lt hu3
                    omega
                  have HB4 : Hid (Below w.heap.size w W4) := HB.out.trans (below_le (hB3.trans (below_le hB14 hs3)) HB.out.size)
                  have H4 : Hid (Bes W4 p hb w.heap.size T0 t s lo1 n1' cap1 (s2.sent ++ s2.next) ∧ W4.heap[V]? = some (.cells (sideC (.slice lo1 n1' cap1) s2.sent.length s2.first m 5000 (tlC t2)) 28 (0, 0)) ∧ W4.heap[S]? = some (.cells (sideC (.slice lo n cap) s.sent.length s.first m 5000 (tlC t)) 28 (0, 0)) ∧ W4.heap[U]? = some (.cells #[.int .u8 b', .int .u8 f', .bool ub, .bool uf, .int .u8 kd3, .int .u8 st, .bool wd, .slice ao pn pc] 32 (0, 0))) := ⟨hbes4, hblk4, hS4, hu4⟩
                  have HSU : Hid (S < V ∧ U < V) := hSU
                  have hVW : w.heap.size ≤ V := by have := HB.out.size; omega
                  have HVW : Hid (w.heap.size ≤ V) := hVW
                  clear hra hca hrow1 hlo1 hB1 hblk4 hB4 hbes1 hbes4 hs1 hB14 hS4 hu4 hSU hVW ht3 hs3 hld3 hlu3 hu3 hB3
                  go_wp2_with fail
                  try rw [← hV]
                  clear hV hst4 hlu4
                  refine hca4.mono ?_
                  rintro e w4 ⟨rfl, T4, hcy4, hF4⟩
                  clear hca4
                  have hbes5 := H4.out.1.step hcy4 hF4
                  have hS5 := H4.out.1.other hF4 H4.out.2.2.1 (by decide) (by decide) (by decide)
                  have hV5 := H4.out.1.other hF4 H4.out.2.1 (by decide) (by decide) (by decide)
                  have hU5 := H4.out.1.other hF4 H4.out.2.2.2 (by decide) (by decide) (by decide)
                  have HB5 : Hid (Below w.heap.size w w4) := HB4.out.trans (H4.out.1.cyc.fbelow hF4 (Nat.le_refl _) H4.out.1.le)
                  obtain ⟨w5, hst5, htw5, hB5, hg5⟩ := Twin.step (m := m) (a := s2.sent.length) (f := s2.first) hbes5 hS5 rfl hwS (by rw [HSA.out.1, HT.out.most]) (by rw [HSA.out.2, HT.out.oct]) rfl rfl
                  have hld5 := (ld_side hV5 rfl).1
                  have hV6 := (hg5.block V (heap_lt hV5) (fun e => by have h1 := HSU.out; have h2 := Option.some.inj e; omega)).trans hV5
                  have hU6 := (hg5.block U (heap_lt hU5) (fun e => by rw [← Option.some.inj e, hU5] at hS5; exact absurd hS5 (by simp))).trans hU5
                  have hld6 := (ld_side htw5.blk rfl).1
                  have hlu6 := (ld_unit hU6 rfl).1
                  obtain ⟨-, -, -, -, hl0, hl1, -⟩ := htw5.small hm2.2
                  obtain ⟨R, hR⟩ : ∃ R : Bool, R = decide (kd3 = 2 ∧ f' = (t2.last + 1) % 128) := ⟨_, rfl⟩
                  obtain ⟨la, hla⟩ : ∃ la : Int, la = if R = true then (t2.last + 1) % 128 else t2.last := ⟨_, rfl⟩
                  have hrt := rtake_any (w := w5) (lo := lo1) (n := n1') (cap := cap1) t2 s2.sent.length s2.first m 5000 b' f' kd3 st ub uf wd (.slice ao pn pc) R la hl0 hl1 hf'.1 hf'.2 hR hla
                  have H5 : Hid (Twin w5 p hb w.heap.size S m T4 t2 s2 lo1 n1' cap1 ∧ Below w.heap.size w w5 ∧ w5.heap[V]? = some (.cells (sideC (.slice lo1 n1' cap1) s2.sent.length s2.first m 5000 (tlC t2)) 28 (0, 0)) ∧ w5.heap[U]? = some (.cells #[.int .u8 b', .int .u8 f', .bool ub, .bool uf, .int .u8 kd3, .int .u8 st, .bool wd, .slice ao pn pc] 32 (0, 0))) := ⟨htw5, HB5.out.trans hB5, hV6, hU6⟩
                  have HR : Hid (R = decide (kd3 = 2 ∧ f' = (t2.last + 1) % 128) ∧ la = if R = true then (t2.last + 1) % 128 else t2.last) := ⟨hR, hla⟩
                  have he1 : IntKind.i64.wrap E2 = E2 := wrap_small _ (by omega) (by omega)
                  clear hbes5 hS5 hV5 hU5 htw5 hB5 hg5 hV6 hU6 hl0 hl1 hR hla hcy4 hF4 hea
                  go_wp2_with fail
                  refine hrt.mono ?_
                  rintro e w6 ⟨rfl, hB6⟩
                  clear hrt hst5 hld5 hld6 hlu6 he1
                  have htw6 := H5.out.1.below hB6
                  have hV6 := (hB6.block V (heap_lt H5.out.2.2.1)).trans H5.out.2.2.1
                  have hU6 := (hB6.block U (heap_lt H5.out.2.2.2)).trans H5.out.2.2.2
                  have hst7 := st_side hV6 rfl (ds := sideC (.slice lo1 n1' cap1) s2.sent.length s2.first m 5000 (tlC { t2 with last := la })) rfl (sideC_one _ _ _ _ _ _ _ _)
                  have hg7 := putS_gb w6 V (sideC (.slice lo1 n1' cap1) s2.sent.length s2.first m 5000 (tlC { t2 with last := la }))
                  have hV7 := putS_heap hV6 (ds := sideC (.slice lo1 n1' cap1) s2.sent.length s2.first m 5000 (tlC { t2 with last := la })) rfl
                  obtain ⟨w7, hw7⟩ : ∃ w7, w7 = putS w6 V (sideC (.slice lo1 n1' cap1) s2.sent.length s2.first m 5000 (tlC { t2 with last := la })) := ⟨_, rfl⟩
                  rw [← hw7] at hst7 hg7 hV7
                  have htw7 := htw6.off hg7 hV6 (fun e => by have h1 := HSU.out; omega)
                  have hU7 := (hg7.block U (heap_lt hU6) (fun e => by have h1 := HSU.out; have h2 := Option.some.inj e; omega)).trans hU6
                  have hs6 := Nat.le_trans H5.out.2.1.size hB6.size
                  have hB7 := gb_below hg7 (H5.out.2.1.trans (below_le hB6 H5.out.2.1.size)) HVW.out hs6
                  have hlu7 := (ld_unit hU7 rfl).1
                  have hct := ctake_all p hb w.heap.size T4 t2 s2 b' f' kd3 st ub uf wd ao pn pc xs R la w7 htw7.bes.cyc hxl (by omega) hcap (hrd.below (Nat.le_refl _) hB7) hap HR.out.1 HR.out.2
                  have H7 : Hid (Twin w7 p hb w.heap.size S m T4 t2 s2 lo1 n1' cap1 ∧ Below w.heap.size w w7 ∧ w7.heap[V]? = some (.cells (sideC (.slice lo1 n1' cap1) s2.sent.length s2.first m 5000 (tlC { t2 with last := la })) 28 (0, 0)) ∧ w7.heap[U]? = some (.cells #[.int .u8 b', .int .u8 f', .bool ub, .bool uf, .int .u8 kd3, .int .u8 st, .bool wd, .slice ao pn pc] 32 (0, 0))) := ⟨htw7, hB7, hV7, hU7⟩
                  clear htw6 hV6 hU6 hg7 hV7 hw7 htw7 hU7 hs6 hB7
                  go_wp2_with fail
                  clear hst7 hlu7 hap
                  refine hct.mono ?_
                  rintro e w8 ⟨vo, vn, vc, rfl, hy, hn, hcy8, hF8⟩
                  have hbes8 := H7.out.1.bes.step hcy8 hF8
                  have hS8 := H7.out.1.bes.other hF8 H7.out.1.blk (by decide) (by decide) (by decide)
                  have hV8 := H7.out.1.bes.other hF8 H7.out.2.2.1 (by decide) (by decide) (by decide)
                  have hU8 := H7.out.1.bes.other hF8 H7.out.2.2.2 (by decide) (by decide) (by decide)
                  have hB8 := H7.out.2.1.trans (H7.out.1.bes.cyc.fbelow hF8 (Nat.le_refl _) H7.out.1.bes.le)
                  obtain ⟨w9, hst9, htw9, hB9, -⟩ := Twin.step (m := m) (a := s2.sent.length) (f := s2.first) hbes8 hS8 rfl hwS (by rw [HSA.out.1, HT.out.most]) (by rw [HSA.out.2, HT.out.oct]) rfl rfl
                  have HF : Hid (Twins w9 p hb w.heap.size S m ∧ Below w.heap.size w w9) := ⟨⟨_, _, _, _, _, _, htw9⟩, hB8.trans hB9⟩
                  have hld8 := (ld_side hV8 rfl).1
                  obtain ⟨-, -, -, -, -, -, -, u7⟩ := (unit_cells hU8).1
                  have hc2 := conv_reads (cap := pc) hxl (hrd.below (Nat.le_refl _) hB8)
                  clear hbes8 hS8 hV8 hU8 hB8 htw9 hB9 hcy8 hF8 hct
                  clear HR
                  cases R with
                  | true =>
                    obtain ⟨rfl, hv⟩ := hy rfl
                    have hc1 := conv_reads (cap := vc) hxl hv
                    have e9 : ((str xs).toList == (str xs).toList) = true := beq_self_eq_true _
                    clear hy hn hv
                    go_wp2
                    go_meet
                    case rel => exact HF.out
                  | false =>
                    obtain rfl := hn rfl
                    clear hy hn hc2
                    go_wp2
                    go_meet
                    case rel => exact HF.out
          case rest =>
            clear x0 x1 x9 x2 hrW hxb
            obtain ⟨⟨Tc, tc, sc, loc, nc, capc, htc⟩, hBc⟩ := hcut
            obtain ⟨-, hPc, hFc, -, hlc0, hlc1, -⟩ := htc.small hm2.2
            have hcy := htc.bes.cyc
            obtain ⟨L, hL⟩ : ∃ L, L = sideC (.slice loc nc capc) sc.sent.length sc.first m 5000 (tlC tc) := ⟨_, rfl⟩
            obtain ⟨P, hP⟩ : ∃ P : Nat, P = sc.sent.length := ⟨_, rfl⟩
            obtain ⟨la, hla⟩ : ∃ la : Int, la = tc.last := ⟨_, rfl⟩
            obtain ⟨fo, hfo⟩ : ∃ fo : Bool, fo = tc.force := ⟨_, rfl⟩
            obtain ⟨ln, hln⟩ : ∃ ln : Int, ln = sc.last := ⟨_, rfl⟩
            have H19 : Hid (∀ Y, Below wc.heap.size wc Y → Calls Try.prog 19 #[.pointer (some ⟨p, 0, none⟩)] Y fun e w' => e = .returned (.int .u8 la) ∧ Below wc.heap.size wc w') := fun Y hY => (ctaken_any p hb w.heap.size Tc tc sc Y (hcy.below hY)).mono (fun e w' h => ⟨by rw [hla]; exact h.1, by rw [h.2]; exact hY⟩)
            have H10 : Hid (∀ Y, Below wc.heap.size wc Y → Calls Try.prog 10 #[.pointer (some ⟨p, 0, none⟩)] Y fun e w' => e = .returned (.pointer (some ⟨hb, 0, none⟩)) ∧ Below wc.heap.size wc w') := fun Y hY => (chold_any p hb w.heap.size Tc tc sc Y (hcy.below hY)).mono (fun e w' h => ⟨h.1, by rw [h.2]; exact hY⟩)
            have H20 : Hid (∀ Y, Below wc.heap.size wc Y → Calls Try.prog 20 #[.pointer (some ⟨hb, 0, none⟩)] Y fun e w' => e = .returned (.int .i64 P) ∧ Below wc.heap.size wc w') := fun Y hY => (sent_any hb w.heap.size Tc sc Y (hcy.below hY).hold).mono (fun e w' h => ⟨by rw [hP]; exact h.1, by rw [h.2]; exact hY⟩)
            have H21 : Hid (∀ Y, Below wc.heap.size wc Y → Calls Try.prog 21 #[.pointer (some ⟨p, 0, none⟩)] Y fun e w' => e = .returned (.bool fo) ∧ Below wc.heap.size wc w') := fun Y hY => (cresends_any p hb w.heap.size Tc tc sc Y (hcy.below hY)).mono (fun e w' h => ⟨by rw [hfo]; exact h.1, by rw [h.2]; exact hY⟩)
            have H22 : Hid (∀ Y, Below wc.heap.size wc Y → Calls Try.prog 22 #[.pointer (some ⟨p, 0, none⟩)] Y fun e w' => e = .returned (.agg (uC la ln true true 0 (.slice none 0 0))) ∧ Below wc.heap.size wc w') := fun Y hY => (fill_any p hb w.heap.size Tc tc sc Y (hcy.below hY)).mono (fun e w' h => ⟨by rw [hla, hln]; exact h.1, hY.trans (below_le h.2 hY.size)⟩)
            have H23 : Hid (∀ Y, Below wc.heap.size wc Y → Calls Try.prog 23 #[.agg L] Y fun e w' => e = .returned (.agg (uC la ln true true 0 (.slice none 0 0))) ∧ Below wc.heap.size wc w') := fun Y hY => by
              rw [hL]
              exact (rfill_any (.slice loc nc capc) sc.sent.length sc.first m 5000 (tlC tc) Y hlc0 hlc1 (by omega) (by omega) (by omega) (by omega)).mono (fun e w' h => ⟨by rw [hla, hln]; exact h.1, hY.trans (below_le h.2 hY.size)⟩)
            have H13 : Hid (∀ Y, Below wc.heap.size wc Y → Calls Try.prog 13 #[.agg (uC la ln true true 0 (.slice none 0 0)), .agg (uC la ln true true 0 (.slice none 0 0))] Y fun e w' => e = .returned (.bool true) ∧ Below wc.heap.size wc w') := fun Y hY => (same_info (B := 0) (B' := 0) la ln 0 none (.slice none 0 0) (.slice none 0 0) Y rfl rfl).mono (fun e w' h => ⟨h.1, hY.trans (below_le h.2 hY.size)⟩)
            have HS : Hid (∀ Y, Below wc.heap.size wc Y → Y.cell? ⟨S, 10, none⟩ = some (.int .i64 la) ∧ Y.cell? ⟨S, 1, none⟩ = some (.int .i64 P) ∧ Y.cell? ⟨S, 13, none⟩ = some (.bool fo) ∧ (ldS (.pointer (some ⟨S, 0, none⟩))).run Try.prog Y = .ok (.agg L) Y) := fun Y hY => by
              have hS := (hY.block S (heap_lt htc.blk)).trans htc.blk
              obtain ⟨⟨-, -, -, -, -, c10⟩, -, c13, -⟩ := side_all hS
              obtain ⟨⟨-, c1, -⟩, -⟩ := side_cells hS
              exact ⟨by rw [hla]; exact c10, by rw [hP]; exact c1, by rw [hfo]; exact c13, by rw [hL]; exact (ld_side hS rfl).1⟩
            have r1 : IntKind.i64.wrap la = la := wrap_small _ (by omega) (by omega)
            have hD : Below wc.heap.size wc wc.drew := (Below.refl _ _).drew
            have HTC : Hid (Twin wc p hb w.heap.size S m Tc tc sc loc nc capc ∧ Below w.heap.size w wc) := ⟨htc, hBc⟩
            clear htc hBc hcy hL hP hla hfo hln hPc hFc hlc0 hlc1 HT
            go_wp2_with fail
            go_region_held (fun Y => Y.cell? ⟨S, 10, none⟩ = some (.int .i64 la) ∧ Y.cell? ⟨S, 1, none⟩ = some (.int .i64 P) ∧ Y.cell? ⟨S, 13, none⟩ = some (.bool fo) ∧ (ldS (.pointer (some ⟨S, 0, none⟩))).run Try.prog Y = .ok (.agg L) Y) ((refine HS.out _ ?_; assumption))
              (first
              | (go_at_call 19; refine (H19.out _ (by assumption)).mono ?_; rintro e w19 ⟨rfl, hB19⟩)
              | (go_at_call 10; refine (H10.out _ (by assumption)).mono ?_; rintro e w10 ⟨rfl, hB10⟩)
              | (go_at_call 20; refine (H20.out _ (by assumption)).mono ?_; rintro e w20 ⟨rfl, hB20⟩)
              | (go_at_call 21; refine (H21.out _ (by assumption)).mono ?_; rintro e w21 ⟨rfl, hB21⟩)
              | (go_at_call 22; refine (H22.out _ (by assumption)).mono ?_; rintro e w22 ⟨rfl, hB22⟩)
              | (go_at_call 23; refine (H23.out _ (by assumption)).mono ?_; rintro e w23 ⟨rfl, hB23⟩)
              | (go_at_call 13; refine (H13.out _ (by assumption)).mono ?_; rintro e w13 ⟨rfl, hB13⟩))
            go_wp2
            go_roundw
            case rel => exact ⟨k + 1, by omega, by go_num, ⟨_, _, _, _, _, _, HTC.out.1.below hB13⟩, HTC.out.2.trans (below_le hB13 HTC.out.2.size)⟩
            case measure => simp [intOf]; omega
      · obtain rfl : k = N := by omega
        clear hlt hk
        go_wp2
        go_ret
        exact ⟨rfl, hBr⟩
end Go.Proofs.Ytmnhciildlmjcaa.Tape
