/- HoldPlays' walk. -/
import Derived.Test.YtgdbpblojncjhaaPlays1
import Derived.Test.YtgdbpblojncjhaaTold2
import Derived.Test.YtgdbpblojncjhaaRestLaw
import Derived.Test.YtgdbpblojncjhaaActs10
import Derived.Test.YtgdbpblojncjhaaHold8
namespace Go.Proofs.Ytgdbpblojncjhaa.Tape
open Go.ChangeShapes Go.WideShapes Go.ChangeAt Go.RowKit
set_option linter.unusedVariables false
attribute [local go_sem ↓] ldS_def stS_def

/-- A Side just made. -/
def tl0 : Tail := ⟨false, 0, 0, true, true, 127, false, -1, false, false, false, false, false⟩

/-- A Hold in block b, and in block S the Side that is its like. -/
structure Twin (w : World) (C b S : Nat) (m o : Int) (s : Hs) (T : Nat → Prop) (lo : Option Addr) (n cap : Nat) : Prop where
  bes : Beside w C b (S + 1) T s lo n cap
  blk : w.heap[S]? = some (.cells (sideC (.slice lo n cap) s.sent.length s.first m o tl0) 29 (0, 0))
  most : s.most = m
  oct : s.oct = o
def Twins (w : World) (C b S : Nat) (m o : Int) : Prop := ∃ s T lo n cap, Twin w C b S m o s T lo n cap

theorem Twin.below {w w' : World} {C b S : Nat} {m o : Int} {s : Hs} {T : Nat → Prop} {lo : Option Addr} {n cap : Nat} (h : Twin w C b S m o s T lo n cap) (hb : Below w.heap.size w w') : Twin w' C b S m o s T lo n cap :=
  ⟨h.bes.below hb, (hb.block _ (heap_lt h.blk)).trans h.blk, h.most, h.oct⟩

theorem Fine_small {s : Hs} (h : s.Fine) (hm : s.most ≤ 40) : s.next.length ≤ 100000 := by
  rcases h.room with e | e <;> omega

/-- A new Side is stored where the old one was. -/
theorem Twin.step {w3 : World} {C b S : Nat} {m o a f : Int} {s : Hs} {T : Nat → Prop} {lo : Option Addr} {n cap : Nat} {cs : Array Value} (hbes : Beside w3 C b (S + 1) T s lo n cap) (hS : w3.heap[S]? = some (.cells cs 29 (0, 0))) (hcs : cs.size = 18) (hb : S ≠ b) (hC : C ≤ S) (hm : s.most = m) (ho : s.oct = o) (ha : a = s.sent.length) (hf : f = s.first) :
    ∃ w5, (stS (.pointer (some ⟨S, 0, none⟩)) (.agg (sideC (.slice lo n cap) a f m o tl0))).run Try.prog w3 = .ok () w5 ∧ Twin w5 C b S m o s T lo n cap ∧ Below C w3 w5 ∧ w3.grownBy w5 (some S) := by
  subst ha hf
  have hg := putS_gb w3 S (sideC (.slice lo n cap) s.sent.length s.first m o tl0)
  refine ⟨_, st_side hS hcs (sideC_size _ _ _ _ _ _) (sideC_one _ _ _ _ _ _ _ _), ⟨hbes.store hg (by omega) hb hC, putS_heap hS (by rw [hcs, sideC_size]), hm, ho⟩, ⟨hg.os, hg.tape, hg.output, hg.size, fun k hk => hg.block k (by have := hbes.le; omega) (fun e => by simp at e; omega)⟩, hg⟩

/-- A value is kept in a new block. -/
theorem keep_new (w1 : World) (cs : Array Value) (hc : cs.size = 18) (h1 : cs.all (·.oneCell') = true) : ∃ W2, (stS (.pointer (some ⟨w1.heap.size, 0, none⟩)) (.agg cs)).run Try.prog (w1.alloc (.cells zeroS 29)) = .ok () W2 ∧ W2.heap[w1.heap.size]? = some (.cells cs 29 (0, 0)) ∧ Below w1.heap.size w1 W2 :=
  ⟨_, st_side (heap_alloc_new w1 _) rfl hc h1, putS_heap (heap_alloc_new w1 _) hc.symm, putS_below cs ((Below.refl _ _).alloc (Nat.le_refl _) _) (Nat.le_refl _)⟩

theorem HoldAt.next_head {w : World} {b B : Nat} {T : Nat → Prop} {s : Hs} {x : List Int} {xs : List (List Int)} (h : HoldAt w b B T s) (hs : s.next = x :: xs) : 3 ≤ x.length := by
  obtain ⟨sv, nv, -, hi⟩ := h
  obtain ⟨us, h1, h2⟩ := hi.next
  rw [hs] at h2
  match us, h2 with
  | u :: us, h2 => exact h2.1.2.1

/-- What a step of the Hold leaves as it was. -/
theorem Twin.move {W W2 w3 : World} {C b S : Nat} {m o : Int} {s : Hs} {T T3 : Nat → Prop} {lo : Option Addr} {n cap : Nat} (ht : Twin W C b S m o s T lo n cap) (hB : Below W.heap.size W W2) (hF : Foot T T3 W2 w3) (hCb : C ≤ b) (hbS : b < S) :
    w3.heap[S]? = some (.cells (sideC (.slice lo n cap) s.sent.length s.first m o tl0) 29 (0, 0)) ∧ Below C W2 w3 ∧ ∀ k x, W.heap.size ≤ k → W2.heap[k]? = some x → w3.heap[k]? = some x := by
  have hmine := ht.bes.hold.mine
  have hle := ht.bes.le
  have hsz := hB.size
  have hS2 := (hB.block S (heap_lt ht.blk)).trans ht.blk
  refine ⟨(hF.block _ (heap_lt hS2) (fun e => ?_)).trans hS2, hF.below (fun g e => ?_) (by omega), fun k x hk hx => (hF.block k (heap_lt hx) (fun e => ?_)).trans hx⟩
  · rcases (hmine _ e).1 with e | e <;> omega
  · rcases (hmine _ e).1 with e | e <;> omega
  · have := (hmine _ e).2
    omega

theorem send_full_same {s : Hs} (h : s.next ≠ []) (h127 : 127 ≤ s.sent.length) : s.send = s := by
  unfold Hs.send
  cases hh : s.next with
  | nil => exact (h hh).elim
  | cons x xs => simp [h127]

theorem put_same (s : Hs) (xs : List Int) : (s.put xs).first = s.first ∧ (s.put xs).most = s.most ∧ (s.put xs).oct = s.oct := by
  unfold Hs.put
  split <;> exact ⟨rfl, rfl, rfl⟩

theorem act_cells {w : World} {b : Nat} {c0 c1 c2 : Value} {t : TypeId} (h : w.heap[b]? = some (.cells #[c0, c1, c2] t (0, 0))) :
    w.cell? ⟨b, 0, none⟩ = some c0 ∧ w.cell? ⟨b, 1, none⟩ = some c1 ∧ w.cell? ⟨b, 2, none⟩ = some c2 ∧ ∀ k, w.frozen? ⟨b, k, none⟩ = false := by
  refine ⟨?_, ?_, ?_, Lib.frozen_of_heap h⟩ <;> rw [Lib.cell_of_heap h] <;> rfl

set_option maxRecDepth 100000 in
set_option maxHeartbeats 4000000 in
theorem plays_walk (mo oc : Int) (a0 : Option Addr) (N cap0 : Nat) (w : World) (hm0 : 0 ≤ mo) (hm1 : mo ≤ 65535) (ho0 : 0 ≤ oc) (ho1 : oc ≤ 65535) (hN : N ≤ maxLen) (hacts : Acts w a0 N) :
    Calls Try.prog 3 #[.int .u16 mo, .int .u16 oc, .slice a0 N cap0] w fun e w' => e = .returned (.bool true) ∧ Below w.heap.size w w' := by
  have hN' : N ≤ 9223372036854775807 := hN
  clear hN
  by_cases h60 : 60 < N
  · go_enter Try.func3, Try.ntmps3
    go_wp2_with fail
    refine (awake10_any w).mono ?_
    rintro e w1 ⟨rfl, hB1⟩
    go_wp2_with fail
    refine (awake10_any w1).mono ?_
    rintro e w2 ⟨rfl, hB2⟩
    go_wp2
    go_ret
    exact ⟨rfl, hB1.trans (below_le hB2 hB1.size)⟩
  · obtain ⟨m, hm⟩ : ∃ m : Nat, 1 + mo % 40 = m := ⟨(1 + mo % 40).toNat, by omega⟩
    obtain ⟨o, ho⟩ : ∃ o : Nat, 1 + oc % 600 = o := ⟨(1 + oc % 600).toNat, by omega⟩
    have hm2 : m ≤ 40 := by omega
    have ho2 : o ≤ 600 := by omega
    go_enter Try.func3, Try.ntmps3
    go_wp2_with fail
    refine (awake10_any w).mono ?_
    rintro e w1 ⟨rfl, hB1⟩
    go_wp2_with fail
    refine (new_all m o w1 (by omega) (by omega)).mono ?_
    rintro e w2 ⟨rfl, ⟨T2, hat2, hT2⟩, hB2⟩
    go_wp2_with fail
    refine (rnew_any m o w2).mono ?_
    rintro e w3 ⟨rfl, hB3⟩
    have hs1 := hB1.size
    have hs2 := hB2.size
    have hs3 := hB3.size
    obtain ⟨b, hb⟩ : ∃ b, b = w1.heap.size := ⟨_, rfl⟩
    rw [← hb] at hat2 hT2 ⊢
    have hbC : w.heap.size ≤ b := by omega
    have hb2 : b < w2.heap.size := heap_lt (hat2 0).choose_spec.choose_spec.2.cells
    have hnew := heap_alloc_new w3 (.cells zeroS 29)
    have hst := st_side hnew rfl (sideC_size (.slice none 0 0) 0 0 m o tl0) (sideC_one _ _ _ _ _ _ _ _)
    have hblk := putS_heap (ds := sideC (.slice none 0 0) 0 0 m o tl0) hnew rfl
    have hgb := putS_gb (w3.alloc (.cells zeroS 29)) w3.heap.size (sideC (.slice none 0 0) 0 0 m o tl0)
    obtain ⟨S, hS⟩ : ∃ S, S = w3.heap.size := ⟨_, rfl⟩
    obtain ⟨W, hW⟩ : ∃ W, W = putS (w3.alloc (.cells zeroS 29)) w3.heap.size (sideC (.slice none 0 0) 0 0 m o tl0) := ⟨_, rfl⟩
    rw [← hW] at hst hblk hgb
    have hB4 : Below w.heap.size w W := by
      rw [hW]
      exact putS_below _ ((hB1.trans ((below_le hB2 hs1).trans (below_le hB3 (by omega)))).alloc (by omega) _) (by omega)
    have htwin : Twins W w.heap.size b S m o := by
      have hB23 : Below w2.heap.size w2 (w3.alloc (.cells zeroS 29)) := hB3.alloc hs3 _
      have hat3 := (hat2 (S + 1)).below hB23
      have hbes : Beside (w3.alloc (.cells zeroS 29)) w.heap.size b (S + 1) T2 ⟨m, o, 0, [], []⟩ none 0 0 := ⟨hat3, ⟨[], RowAt.nil _, trivial, fun ad e => by cases e⟩, by simp; omega, by simp⟩
      rw [← hS] at hgb hblk
      exact ⟨⟨m, o, 0, [], []⟩, T2, none, 0, 0, hbes.store hgb (by omega) (by omega) (by omega), hblk, rfl, rfl⟩
    have hbS : b < S := by omega
    clear hat2 hT2 hB1 hB2 hB3 hs1 hs2 hs3 hb hb2 hnew hblk hgb hW
    unfold zeroS at hst
    unfold tl0 at hst
    have e60 : decide ((60 : Int) < (N : Int)) = false := decide_eq_false (by omega)
    have hN60 : N ≤ 60 := by omega
    go_wp2_with fail
    try rw [e60]
    rw [← hS]
    clear hst hS e60 h60 hm ho hm0 hm1 ho0 ho1 hN'
    go_loopw [11] (fun i wr => ∃ k : Nat, k ≤ N ∧ i = .int .i64 k ∧ Twins wr w.heap.size b S m o ∧ Below w.heap.size w wr) (fun i _ => N - (intOf i).toNat)
    case atStart => exact ⟨0, by omega, rfl, htwin, hB4⟩
    case round =>
      clear htwin hB4
      obtain ⟨k, hk, rfl, htwin, hBr⟩ := hrel
      by_cases hlt : k < N
      · obtain ⟨g, off, rfl, K, A, ao, pn, pc, xs, d0, d1, d2, hK, hA, hxl, hpn, hrd, hxs⟩ := hacts k hlt
        have hCr := hBr.size
        have hblkP : ∀ ad, 3 ≤ pn → ao = some ad → ad.block < w.heap.size := fun ad h3 e => by
          obtain ⟨g', off', e', hc⟩ := hrd 0 (.int .u8 xs[0]) (by simp [show 0 < xs.length by omega])
          rw [e] at e'
          cases e'
          exact World.block_lt_of_cell? w _ hc
        have d0' := (hBr.cell (World.block_lt_of_cell? w _ d0)).trans d0
        have d1' := (hBr.cell (World.block_lt_of_cell? w _ d1)).trans d1
        have d2' := (hBr.cell (World.block_lt_of_cell? w _ d2)).trans d2
        obtain ⟨W, hW⟩ : ∃ W, W = wr.alloc (.cells #[.int .u8 K, .int .u8 A, .slice ao pn pc] 33) := ⟨_, rfl⟩
        have hBW : Below wr.heap.size wr W := by rw [hW]; exact (Below.refl _ _).alloc (Nat.le_refl _) _
        have hxb : W.heap[wr.heap.size]? = some (.cells #[.int .u8 K, .int .u8 A, .slice ao pn pc] 33 (0, 0)) := by rw [hW]; exact heap_alloc_new wr _
        obtain ⟨X, hX⟩ : ∃ X, X = wr.heap.size := ⟨_, rfl⟩
        have htw : Twins W w.heap.size b S m o := by
          obtain ⟨s, T, lo, n, cap, ht⟩ := htwin
          exact ⟨s, T, lo, n, cap, ht.below hBW⟩
        have hBX : Below w.heap.size w W := hBr.trans (below_le hBW hCr)
        have hXs : X < W.heap.size := by rw [hX]; exact heap_lt hxb
        have hwX : w.heap.size ≤ X := by omega
        go_upto_region 11 with fail
        rw [← hW, ← hX]
        rw [← hX] at hxb
        obtain ⟨x0, x1, x2, xz⟩ := act_cells hxb
        clear hW hX hBW hBr htwin d0 d1 d2 d0' d1' d2' hCr
        by_cases h300 : 300 < pn
        · go_wp2
          go_ret
          exact ⟨rfl, hBX⟩
        · have hp300 : pn ≤ 300 := by omega
          obtain ⟨q, hq⟩ : ∃ q : Int, K % 10 = q := ⟨_, rfl⟩
          have hq0 : 0 ≤ q := by omega
          have hq1 : q < 10 := by omega
          have e300 : decide ((300 : Int) < (pn : Int)) = false := decide_eq_false (by omega)
          go_upto_block 2 with fail
          try rw [e300]
          try rw [hq]
          clear e300 h300 hq
          go_cut [] from 48 to 210 (fun wc => Twins wc w.heap.size b S m o ∧ Below w.heap.size w wc)
          case first =>
            obtain ⟨s, T, lo, n, cap, ht⟩ := htw
            have hSW := heap_lt ht.blk
            have hld := (ld_side ht.blk rfl).1
            have hrW : Reads W ao (xs.map (.int .u8)) := hrd.below (Nat.le_refl _) hBX
            have hfine := ht.bes.hold.fine
            have HB : Hid (Below w.heap.size w W) := hBX
            have HT : Hid (Twin W w.heap.size b S m o s T lo n cap) := ht
            by_cases q4 : q < 4
            · as_aux_lemma =>
                have hput9 := rput_law tl0 ht.bes (by omega) ao pn pc xs hxl (by omega) hrW hblkP hxs
                rw [ht.most, ht.oct] at hput9
                obtain ⟨E, hE⟩ : ∃ E, s.putE xs = E := ⟨_, rfl⟩
                rw [hE] at hput9
                have HP : Hid (s.putE xs = E ∧ (s.put xs).first = s.first ∧ (s.put xs).most = s.most ∧ (s.put xs).oct = s.oct) := ⟨hE, put_same s xs⟩
                clear hE x0 x1 xz hBX hrW ht
                go_wp2_with fail
                refine hput9.mono ?_
                rintro e w1 ⟨lo1, n1, cap1, rfl, hrow1, hsent1, hB1⟩
                obtain ⟨W2, hst, hblk2, hB2⟩ := keep_new w1 (sideC (.slice lo1 n1 cap1) s.sent.length s.first m o tl0) rfl (sideC_one _ _ _ _ _ _ _ _)
                have hs1 := hB1.size
                have hs2 := hB2.size
                have hB12 := hB1.trans (below_le hB2 hs1)
                have x2' := (hB12.cell (World.block_lt_of_cell? W _ x2)).trans x2
                have hpu := put_any b (S + 1) T s ao pn pc xs W2 (HT.out.bes.hold.below hB12) hxl (by omega) (hrd.below (Nat.le_refl _) (HB.out.trans (below_le hB12 HB.out.size))) hxs (by omega)
                rw [HP.out.1] at hpu
                have HW2 : Hid (W2.heap[w1.heap.size]? = some (.cells (sideC (.slice lo1 n1 cap1) s.sent.length s.first m o tl0) 29 (0, 0)) ∧ LRow W2 w.heap.size (S + 1) T lo1 n1 cap1 ((s.put xs).sent ++ (s.put xs).next) ∧ Below W.heap.size W W2) := ⟨hblk2, hrow1.below hB2 (Nat.le_trans HB.out.size hs1), hB12⟩
                unfold zeroS at hst
                clear hput9 hblk2 hrow1 hB1 hB2 hB12 x2 hs2
                go_wp2_with fail
                refine hpu.mono ?_
                rintro e w3 ⟨rfl, T3, hat3, hF3⟩
                have hCW := HB.out.size
                have hmine := HT.out.bes.hold.mine
                have hTN : ¬ T w1.heap.size := fun e => by have := (hmine _ e).2; omega
                have hTS : ¬ T S := fun e => by rcases (hmine _ e).1 with e | e <;> omega
                have hS2 := (HW2.out.2.2.block S hSW).trans HT.out.blk
                have hk3 := (hF3.block _ (heap_lt HW2.out.1) hTN).trans HW2.out.1
                have hS3 := (hF3.block _ (heap_lt hS2) hTS).trans hS2
                have hsW2 := HW2.out.2.2.size
                have hFB : Below w.heap.size W2 w3 := hF3.below (fun g e => by rcases (hmine _ e).1 with e | e <;> omega) (by omega)
                have hbes3 : Beside w3 w.heap.size b (S + 1) T3 (s.put xs) lo1 n1 cap1 := ⟨hat3, HW2.out.2.1.foot hF3 hFB, by have := hFB.size; omega, Fine_small hat3.fine (by rw [HP.out.2.2.1, HT.out.most]; omega)⟩
                obtain ⟨w5, hst5, htw5, hB5, -⟩ := Twin.step (m := m) (o := o) (a := s.sent.length) (f := s.first) hbes3 hS3 rfl (by omega) (by omega) (by rw [HP.out.2.2.1, HT.out.most]) (by rw [HP.out.2.2.2, HT.out.oct]) (by rw [hsent1]) (by rw [HP.out.2.1])
                have hld3 := (ld_side hk3 rfl).1
                have HF : Hid (Twin w5 w.heap.size b S m o (s.put xs) T3 lo1 n1 cap1 ∧ Below w.heap.size w w5) := ⟨htw5, HB.out.trans ((below_le HW2.out.2.2 HB.out.size).trans (hFB.trans hB5))⟩
                clear hpu hat3 hF3 hmine hTN hTS hS2 hk3 hS3 hFB hbes3 htw5 hB5 HW2 hld hst x2'
                go_wp2
                go_meet
                case rel => exact ⟨⟨_, _, _, _, _, HF.out.1⟩, HF.out.2⟩
            · by_cases q6 : q < 6
              · by_cases hnx : s.next = []
                · as_aux_lemma =>
                    have hse11 := rsend_law m o tl0 ht.bes
                    have e1 : s.sendE = 2 := by unfold Hs.sendE; rw [if_pos hnx]
                    have e2 : s.send = s := by unfold Hs.send; rw [hnx]
                    rw [e1, e2] at hse11
                    clear x0 x1 x2 xz hBX hrW ht e1 e2
                    go_wp2_with fail
                    refine hse11.mono ?_
                    rintro e w1 ⟨rfl, hB1⟩
                    obtain ⟨W2, hst, hblk2, hB2⟩ := keep_new w1 (sideC (.slice lo n cap) s.sent.length s.first m o tl0) rfl (sideC_one _ _ _ _ _ _ _ _)
                    have hB12 := hB1.trans (below_le hB2 hB1.size)
                    have htw2 := HT.out.below hB12
                    have hsd := send_none b (S + 1) T s W2 htw2.bes.hold hnx
                    have hld2 := (ld_side hblk2 rfl).1
                    obtain ⟨w5, hst5, htw5, hB5, -⟩ := Twin.step (m := m) (o := o) (a := s.sent.length) (f := s.first) htw2.bes htw2.blk rfl (by omega) (by omega) htw2.most htw2.oct rfl rfl
                    have HF : Hid (Twin w5 w.heap.size b S m o s T lo n cap ∧ Below w.heap.size w w5) := ⟨htw5, HB.out.trans ((below_le hB12 HB.out.size).trans hB5)⟩
                    unfold zeroS at hst
                    clear hse11 hblk2 hB1 hB2 hB12 htw2 htw5 hB5
                    go_wp2_with (go_at_call 12; refine hsd.mono ?_; rintro e w3 ⟨rfl, hw3⟩; obtain rfl := hw3.symm; clear hw3)
                    go_quiet (fail)
                    go_wp2
                    go_meet
                    case rel => exact ⟨⟨_, _, _, _, _, HF.out.1.below (below_drewN (Below.refl _ _) _)⟩, below_drewN HF.out.2 _⟩
                · by_cases hfl : 127 ≤ s.sent.length
                  · as_aux_lemma =>
                      have hse11 := rsend_law m o tl0 ht.bes
                      have e1 : s.sendE = 3 := by unfold Hs.sendE; rw [if_neg hnx, if_pos hfl]
                      have e2 : s.send = s := send_full_same hnx hfl
                      rw [e1, e2] at hse11
                      clear x0 x1 x2 xz hBX hrW ht e1 e2
                      go_wp2_with fail
                      refine hse11.mono ?_
                      rintro e w1 ⟨rfl, hB1⟩
                      obtain ⟨W2, hst, hblk2, hB2⟩ := keep_new w1 (sideC (.slice lo n cap) s.sent.length s.first m o tl0) rfl (sideC_one _ _ _ _ _ _ _ _)
                      have hB12 := hB1.trans (below_le hB2 hB1.size)
                      have htw2 := HT.out.below hB12
                      have hsd := send_full b (S + 1) T s W2 htw2.bes.hold hnx hfl
                      have hld2 := (ld_side hblk2 rfl).1
                      obtain ⟨w5, hst5, htw5, hB5, -⟩ := Twin.step (m := m) (o := o) (a := s.sent.length) (f := s.first) htw2.bes htw2.blk rfl (by omega) (by omega) htw2.most htw2.oct rfl rfl
                      have HF : Hid (Twin w5 w.heap.size b S m o s T lo n cap ∧ Below w.heap.size w w5) := ⟨htw5, HB.out.trans ((below_le hB12 HB.out.size).trans hB5)⟩
                      unfold zeroS at hst
                      clear hse11 hblk2 hB1 hB2 hB12 htw2 htw5 hB5
                      go_wp2_with (go_at_call 12; refine hsd.mono ?_; rintro e w3 ⟨rfl, hw3⟩; obtain rfl := hw3.symm; clear hw3)
                      go_quiet (fail)
                      go_wp2
                      go_meet
                      case rel => exact ⟨⟨_, _, _, _, _, HF.out.1.below (below_drewN (Below.refl _ _) _)⟩, below_drewN HF.out.2 _⟩
                  · obtain ⟨x0', xs0, hnx'⟩ : ∃ x xs, s.next = x :: xs := by
                      cases hh : s.next with
                      | nil => exact (hnx hh).elim
                      | cons x xs => exact ⟨x, xs, rfl⟩
                    as_aux_lemma =>
                      have hse11 := rsend_law m o tl0 ht.bes
                      have e1 : s.sendE = 0 := by unfold Hs.sendE; rw [if_neg hnx, if_neg hfl]
                      obtain ⟨P1, hP1⟩ : ∃ P1, s.send.sent.length = P1 := ⟨_, rfl⟩
                      have hl1 := (send_all s).2.2.2.2
                      rw [if_pos e1, hP1] at hl1
                      have HL1 : Hid (P1 = s.sent.length + 1) := hl1
                      clear hl1
                      rw [e1, hP1] at hse11
                      have hwin := hfine.win
                      have hF0 := hfine.first
                      have h3 := ht.bes.hold.next_head hnx'
                      clear x0 x1 x2 xz hBX hrW ht e1 hP1
                      go_wp2_with fail
                      refine hse11.mono ?_
                      rintro e w1 ⟨rfl, hB1⟩
                      obtain ⟨W2, hst, hblk2, hB2⟩ := keep_new w1 (sideC (.slice lo n cap) P1 s.first m o tl0) rfl (sideC_one _ _ _ _ _ _ _ _)
                      have hB12 := hB1.trans (below_le hB2 hB1.size)
                      have htw2 := HT.out.below hB12
                      have hs12 := hB12.size
                      have hsd := send_ok b (S + 1) T s x0' xs0 W2 htw2.bes.hold hnx' (by omega) (by omega)
                      have HW2 : Hid (W2.heap[w1.heap.size]? = some (.cells (sideC (.slice lo n cap) P1 s.first m o tl0) 29 (0, 0)) ∧ Below W.heap.size W W2 ∧ W.heap.size ≤ w1.heap.size) := ⟨hblk2, hB12, hB1.size⟩
                      unfold zeroS at hst
                      clear hse11 hblk2 hB1 hB2 hB12 htw2
                      go_wp2_with fail
                      refine hsd.mono ?_
                      rintro e w3 ⟨v3, T3, rfl, hown3, hat3, hF3⟩
                      have hmv := HT.out.move HW2.out.2.1 hF3 hbC hbS
                      have hk3 := hmv.2.2 w1.heap.size _ HW2.out.2.2 HW2.out.1
                      have hld3 := (ld_side hk3 rfl).1
                      have hCW := HB.out.size
                      have hs3 := hmv.2.1.size
                      have hrow3 := (HT.out.bes.row.below HW2.out.2.1 hCW).foot hF3 hmv.2.1
                      have hbes3 : Beside w3 w.heap.size b (S + 1) T3 { s with sent := s.sent ++ [x0'], next := xs0 } lo n cap := ⟨hat3, by simpa [hnx'] using hrow3, by omega, Fine_small hat3.fine (by show s.most ≤ 40; rw [HT.out.most]; omega)⟩
                      obtain ⟨w5, hst5, htw5, hB5, hG5⟩ := Twin.step (m := m) (o := o) (a := P1) (f := s.first) hbes3 hmv.1 rfl (by omega) (by omega) HT.out.most HT.out.oct (by have := HL1.out; simp; omega) rfl
                      have eL : (s.sent ++ [x0']).length = P1 := by have := HL1.out; simp; omega
                      have hblk5 := htw5.blk
                      simp only [eL] at hblk5
                      obtain ⟨⟨c0, c1, -, -, -⟩, -⟩ := side_cells hblk5
                      have hld5 := (ld_side hblk5 rfl).1
                      have hget := htw5.bes.row.get s.sent.length (by simp)
                      have eX : (s.sent ++ [x0'] ++ xs0)[s.sent.length]'(by simp) = x0' := by simp
                      simp only [eX] at hget
                      obtain ⟨g5, off5, ao5, mc5, rfl, hc5, hrd5⟩ := hget
                      obtain ⟨g3, cc3, rfl⟩ := owns_some hown3 (by omega)
                      have hown5 : w5.ownsRow W2.heap.size 5 1 (.slice (some ⟨g3, 0, none⟩) x0'.length cc3) x0'.length (x0'.map (.int .u8)) := hown3.kept hG5 (.inr (by have := (hown3.lt g3 rfl).1; simp [Value.ownBlock]; omega))
                      have hrd3 := Reads.of_owns hown5
                      obtain ⟨P, hP⟩ : ∃ P, s.sent.length = P := ⟨_, rfl⟩
                      obtain ⟨F, hF⟩ : ∃ F, s.first = F := ⟨_, rfl⟩
                      obtain ⟨XL, hXL⟩ : ∃ XL, x0'.length = XL := ⟨_, rfl⟩
                      have hnum := fun Y => rnumber_any (.slice (some ⟨g5, off5, none⟩) n cap) P1 s.first m o tl0 P Y (by omega) (by omega) (by omega) (by omega)
                      obtain ⟨r, hr⟩ : ∃ r : Int, ((s.first : Int) + P) % 128 = r := ⟨_, rfl⟩
                      have r0 : 0 ≤ r := by omega
                      have r1 : r < 128 := by omega
                      rw [hP] at hc5
                      rw [hXL] at hc5
                      have hr' : ((s.first : Int) + (s.sent.length : Nat)) % 128 = r := by rw [hP]; exact hr
                      rw [hr', hXL]
                      rw [hr] at hnum
                      have HNUM : Hid (∀ Y, ∀ i : Int, i = P → Calls Try.prog 13 #[.agg (sideC (.slice (some ⟨g5, off5, none⟩) n cap) P1 s.first m o tl0), .int .i64 i] Y fun e w' => e = .returned (.int .i64 r) ∧ Below Y.heap.size Y w') := fun Y i e => by subst e; exact hnum Y
                      have HS5 : Hid (∀ Y, Below w5.heap.size w5 Y → Y.cell? ⟨S, 0, none⟩ = some (.slice (some ⟨g5, off5, none⟩) n cap) ∧ Y.cell? ⟨S, 1, none⟩ = some (.int .i64 P1) ∧ Y.cell? ⟨g5, off5 + P, none⟩ = some (.slice ao5 XL mc5) ∧ (ldS (.pointer (some ⟨S, 0, none⟩))).run Try.prog Y = .ok (.agg (sideC (.slice (some ⟨g5, off5, none⟩) n cap) P1 s.first m o tl0)) Y ∧ (convert 31 9 (.slice (some ⟨g3, 0, none⟩) XL cc3)).run Try.prog Y = .ok (.string (str x0')) Y ∧ (convert 31 9 (.slice ao5 XL mc5)).run Try.prog Y = .ok (.string (str x0')) Y) :=
                        fun Y hY => ⟨(hY.cell (World.block_lt_of_cell? w5 _ c0)).trans c0, (hY.cell (World.block_lt_of_cell? w5 _ c1)).trans c1, (hY.cell (World.block_lt_of_cell? w5 _ hc5)).trans hc5, (ld_side ((hY.block _ (heap_lt hblk5)).trans hblk5) rfl).1, conv_reads hXL (hrd3.below (Nat.le_refl _) hY), conv_reads hXL (hrd5.below (Nat.le_refl _) hY)⟩
                      have hPn : P < n := by have := htw5.bes.row.len.1; simp at this; omega
                      have e1 : (P1 : Int) - 1 = (P : Int) := by have := HL1.out; omega
                      have HF : Hid (Twin w5 w.heap.size b S m o { s with sent := s.sent ++ [x0'], next := xs0 } T3 (some ⟨g5, off5, none⟩) n cap ∧ Below w.heap.size w w5) := ⟨htw5, HB.out.trans ((below_le HW2.out.2.1 HB.out.size).trans (hmv.2.1.trans hB5))⟩
                      have hD5 : Below w5.heap.size w5 w5.drew := (Below.refl _ _).drew
                      have k1 : IntKind.i64.wrap (P : Int) = (P : Int) := wrap_small (by omega) (by omega)
                      have k2 : IntKind.i64.wrap r = r := wrap_small (by omega) (by omega)
                      have k3 : (P : Int) < (n : Int) := by omega
                      have k4 : (0 : Int) ≤ (P : Int) := by omega
                      clear hsd hown3 hat3 hF3 hmv hk3 hrow3 hbes3 htw5 hB5 hG5 eL hblk5 hld5 eX c0 c1 hc5 hrd5 hown5 hrd3 hP hF hXL hnum hr hr' HW2 hld hst hs12 hs3
                      go_wp2_with fail
                      go_region_held (fun Y => Y.cell? ⟨S, 0, none⟩ = some (.slice (some ⟨g5, off5, none⟩) n cap) ∧ Y.cell? ⟨S, 1, none⟩ = some (.int .i64 P1) ∧ Y.cell? ⟨g5, off5 + P, none⟩ = some (.slice ao5 XL mc5) ∧ (ldS (.pointer (some ⟨S, 0, none⟩))).run Try.prog Y = .ok (.agg (sideC (.slice (some ⟨g5, off5, none⟩) n cap) P1 s.first m o tl0)) Y ∧ (convert 31 9 (.slice (some ⟨g3, 0, none⟩) XL cc3)).run Try.prog Y = .ok (.string (str x0')) Y ∧ (convert 31 9 (.slice ao5 XL mc5)).run Try.prog Y = .ok (.string (str x0')) Y) ((refine HS5.out _ ?_; assumption))
                        ((go_at_call 13; refine (HNUM.out _ _ (by omega)).mono ?_; rintro e w6 ⟨rfl, hB6⟩; have hB7 := hD5.trans (below_le hB6 hD5.size)))
                      go_wp2
                      go_meet
                      case rel => exact ⟨⟨_, _, _, _, _, HF.out.1.below hB7⟩, HF.out.2.trans (below_le hB7 HF.out.2.size)⟩

              · by_cases q8 : q < 8
                · as_aux_lemma =>
                    obtain ⟨⟨c0, c1, c2, -, -⟩, -⟩ := side_cells ht.blk
                    have hwin := hfine.win
                    have hF0 := hfine.first
                    have HX1 : Hid (W.cell? ⟨X, 1, none⟩ = some (.int .u8 A)) := x1
                    obtain ⟨P, hP⟩ : ∃ P, s.sent.length = P := ⟨_, rfl⟩
                    obtain ⟨L, hL⟩ : ∃ L, L = sideC (.slice lo n cap) s.sent.length s.first m o tl0 := ⟨_, rfl⟩
                    rw [hP] at c1 hwin
                    rw [← hL] at hld
                    have HL : Hid (L = sideC (.slice lo n cap) s.sent.length s.first m o tl0 ∧ s.sent.length = P ∧ W.cell? ⟨S, 1, none⟩ = some (.int .i64 P)) := ⟨hL, hP, c1⟩
                    clear x0 x2 xz hBX hrW ht c0 c2 hL hP
                    obtain ⟨R, hR⟩ : ∃ R, decide (A < 200 ∧ 0 < P) = R := ⟨_, rfl⟩
                    have HR : Hid (decide (A < 200 ∧ 0 < P) = R) := hR
                    clear hR
                    go_upto_region 31 with fail
                    go_cut [141] from 48 to 210 (fun v Y => v = .bool R ∧ Y = W)
                    case first =>
                      by_cases hA2 : A < 200
                      · by_cases hP0 : 0 < P
                        · have hRt : R = true := by rw [← HR.out, decide_eq_true_iff]; exact ⟨hA2, hP0⟩
                          go_wp2
                          go_meet
                          case rel => exact ⟨by rw [hRt], rfl⟩
                        · have hRt : R = false := by rw [← HR.out, decide_eq_false_iff_not]; omega
                          obtain rfl : P = 0 := by omega
                          go_wp2
                          go_meet
                          case rel => exact ⟨by rw [hRt], rfl⟩
                      · have hRt : R = false := by rw [← HR.out, decide_eq_false_iff_not]; omega
                        have hd : decide (A < 200) = false := decide_eq_false hA2
                        go_wp2
                        go_meet
                        case rel => exact ⟨by rw [hRt], rfl⟩
                    case rest =>
                    obtain ⟨rfl, hWc⟩ := hcut
                    have hWc' := hWc.symm
                    subst hWc'
                    go_upto_if 141 with fail
                    go_cut [21] from 48 to 210 (fun v Y => ∃ z : Int, v = .int .u8 z ∧ 0 ≤ z ∧ z ≤ 255 ∧ Below W.heap.size W Y)
                    case first =>
                      cases R with
                      | false =>
                        go_wp2
                        go_meet
                        case rel => exact ⟨A, rfl, hA.1, hA.2, Below.refl _ _⟩
                      | true =>
                        obtain ⟨hA2, hP0⟩ := of_decide_eq_true HR.out
                        obtain ⟨z1, hz1⟩ : ∃ z1 : Int, A % (P : Int) = z1 := ⟨_, rfl⟩
                        have z10 : 0 ≤ z1 := by rw [← hz1]; exact Int.emod_nonneg _ (by omega)
                        have z11 : z1 < P := by rw [← hz1]; exact Int.emod_lt_of_pos _ (by omega)
                        have htm : A.tmod (P : Int) = z1 := by rw [Int.tmod_eq_emod_of_nonneg hA.1]; exact hz1
                        have hnum := fun Y => rnumber_any (.slice lo n cap) s.sent.length s.first m o tl0 z1 Y (by omega) (by omega) (by omega) (by omega)
                        rw [← HL.out.1] at hnum
                        obtain ⟨r, hr⟩ : ∃ r : Int, ((s.first : Int) + z1) % 128 = r := ⟨_, rfl⟩
                        have r0 : 0 ≤ r := by omega
                        have r1 : r < 128 := by omega
                        rw [hr] at hnum
                        have HNUM : Hid (∀ Y, Calls Try.prog 13 #[.agg L, .int .i64 z1] Y fun e w' => e = .returned (.int .i64 r) ∧ Below Y.heap.size Y w') := hnum
                        have HS : Hid (∀ Y, Below W.heap.size W Y → Y.cell? ⟨S, 1, none⟩ = some (.int .i64 P) ∧ Y.cell? ⟨X, 1, none⟩ = some (.int .u8 A) ∧ (ldS (.pointer (some ⟨S, 0, none⟩))).run Try.prog Y = .ok (.agg L) Y) :=
                          fun Y hY => ⟨(hY.cell (World.block_lt_of_cell? W _ HL.out.2.2)).trans HL.out.2.2, (hY.cell (World.block_lt_of_cell? W _ HX1.out)).trans HX1.out, by rw [HL.out.1]; exact (ld_side ((hY.block _ (heap_lt HT.out.blk)).trans HT.out.blk) rfl).1⟩
                        have hD : Below W.heap.size W W.drew := (Below.refl _ _).drew
                        have k1 : IntKind.i64.wrap z1 = z1 := wrap_small (by omega) (by omega)
                        have k2 : IntKind.u8.wrap r = r := by rw [IntKind.wrap_u8]; omega
                        have k3 : IntKind.i64.wrap A = A := wrap_small (by omega) (by omega)
                        have k4 : ¬ (P : Int) = 0 := by omega
                        clear hnum hr hz1
                        go_wp2_with fail
                        go_region_held (fun Y => Y.cell? ⟨S, 1, none⟩ = some (.int .i64 P) ∧ Y.cell? ⟨X, 1, none⟩ = some (.int .u8 A) ∧ (ldS (.pointer (some ⟨S, 0, none⟩))).run Try.prog Y = .ok (.agg L) Y) ((refine HS.out _ ?_; assumption))
                          ((go_at_call 13; refine (HNUM.out _).mono ?_; rintro e w6 ⟨rfl, hB6⟩; have hB7 := hD.trans (below_le hB6 hD.size)))
                        go_wp2
                        go_meet
                        case rel => exact ⟨r, rfl, by omega, by omega, hB7⟩
                    case rest =>
                      obtain ⟨z, rfl, hz0, hz1, hBc⟩ := hcut
                      have htc := HT.out.below hBc
                      have hldc := (ld_side htc.blk rfl).1
                      have hrl := restlaw_any w.heap.size b (S + 1) T s lo n cap m o z tl0 wc htc.bes hz0 hz1
                      rw [← HL.out.1] at hldc hrl
                      have hkb := knows_bhd (s := s) hz0
                      clear c1 hld
                      go_wp2_with fail
                      refine hrl.mono ?_
                      rintro e w3 ⟨rfl, hB3⟩
                      have hBW3 := hBc.trans (below_le hB3 hBc.size)
                      have ht3 := HT.out.below hBW3
                      have hld3 := (ld_side ht3.blk rfl).1
                      rw [← HL.out.1] at hld3
                      have hCW := HB.out.size
                      have hsW3 := hBW3.size
                      cases hK : s.knows z with
                      | false =>
                        have hbn := hkb.2 hK
                        have hfr := rfree_no lo n cap s.sent.length s.first m o z tl0 w3 (by omega) (by omega) (by omega) (by omega) hbn
                        rw [← HL.out.1] at hfr
                        have HT3 : Hid (Twin w3 w.heap.size b S m o s T lo n cap ∧ Below W.heap.size W w3) := ⟨ht3, hBW3⟩
                        clear hrl hldc htc hkb hBc hB3 ht3 hBW3 hbn
                        go_wp2_with fail
                        refine hfr.mono ?_
                        rintro e w4 ⟨rfl, hB4⟩
                        obtain ⟨W5, hst, hblk5, hB5⟩ := keep_new w4 L (by rw [HL.out.1]; rfl) (by rw [HL.out.1]; exact sideC_one _ _ _ _ _ _ _ _)
                        have hB45 := hB4.trans (below_le hB5 hB4.size)
                        have ht5 := HT3.out.1.below hB45
                        have hsd := free_no b (S + 1) T s z W5 ht5.bes.hold hz0 hz1 hK
                        have hld5 := (ld_side hblk5 (by rw [HL.out.1]; rfl)).1
                        obtain ⟨w7, hst7, htw7, hB7, -⟩ := Twin.step (m := m) (o := o) (a := s.sent.length) (f := s.first) ht5.bes ht5.blk rfl (by omega) (by omega) ht5.most ht5.oct rfl rfl
                        rw [← HL.out.1] at hst7
                        have HF : Hid (Twin w7 w.heap.size b S m o s T lo n cap ∧ Below w.heap.size w w7) := ⟨htw7, HB.out.trans ((below_le (HT3.out.2.trans (below_le hB45 hsW3)) HB.out.size).trans hB7)⟩
                        unfold zeroS at hst
                        clear hfr hblk5 hB4 hB5 hB45 ht5 htw7 hB7 hld3
                        go_wp2_with (go_at_call 16; refine hsd.mono ?_; rintro e w6 ⟨rfl, hw6⟩; obtain rfl := hw6.symm; clear hw6)
                        go_meet
                        case rel => exact ⟨⟨_, _, _, _, _, HF.out.1⟩, HF.out.2⟩
                      | true =>
                        have hbn := hkb.1 hK
                        have hk' := of_decide_eq_true hK
                        obtain ⟨U, hU⟩ : ∃ U, s.upTo z = U := ⟨_, rfl⟩
                        have hUd : (U : Int) = (z - s.first + 1) % 128 := by rw [← hU]; unfold Hs.upTo; omega
                        rw [hU] at hbn
                        have hUP : U ≤ s.sent.length := by omega
                        have hfr := rfree_law m o z tl0 ht3.bes hz0 hz1 U hbn hUP
                        rw [← HL.out.1] at hfr
                        obtain ⟨A5, hA5⟩ : ∃ A5 : Int, (s.sent.length : Int) - U = A5 := ⟨_, rfl⟩
                        obtain ⟨F5, hF5⟩ : ∃ F5 : Int, ((s.first : Int) + U) % 128 = F5 := ⟨_, rfl⟩
                        rw [hA5, hF5] at hfr
                        have HU : Hid (s.upTo z = U ∧ (U : Int) = (z - s.first + 1) % 128 ∧ (s.sent.length : Int) - U = A5 ∧ ((s.first : Int) + U) % 128 = F5 ∧ U ≤ s.sent.length) := ⟨hU, hUd, hA5, hF5, hUP⟩
                        have HT3 : Hid (Twin w3 w.heap.size b S m o s T lo n cap ∧ Below W.heap.size W w3) := ⟨ht3, hBW3⟩
                        have hU0 : (0 : Int) ≤ (U : Int) := by omega
                        have hUn : decide ((U : Int) < 0) = false := decide_eq_false (by omega)
                        clear hrl hldc htc hkb hBc hB3 ht3 hBW3 hbn hk' hU hUd hUP hA5 hF5
                        go_wp2_with fail
                        refine hfr.mono ?_
                        rintro e w4 ⟨lo4, n4, cap4, rfl, hrow4, hB4⟩
                        obtain ⟨W5, hst, hblk5, hB5⟩ := keep_new w4 (sideC (.slice lo4 n4 cap4) A5 F5 m o tl0) rfl (sideC_one _ _ _ _ _ _ _ _)
                        have hB45 := hB4.trans (below_le hB5 hB4.size)
                        have ht5 := HT3.out.1.below hB45
                        have hs45 := hB45.size
                        have hs34 := hB4.size
                        have hsd := free_ok b (S + 1) T s z W5 ht5.bes.hold hz0 hK
                        rw [HU.out.1] at hsd
                        have HW5 : Hid (W5.heap[w4.heap.size]? = some (.cells (sideC (.slice lo4 n4 cap4) A5 F5 m o tl0) 29 (0, 0)) ∧ LRow W5 w.heap.size (S + 1) T lo4 n4 cap4 (s.sent.drop U ++ s.next) ∧ Below w3.heap.size w3 W5 ∧ w3.heap.size ≤ w4.heap.size) := ⟨hblk5, hrow4.below hB5 (by omega), hB45, hB4.size⟩
                        unfold zeroS at hst
                        clear hfr hblk5 hrow4 hB4 hB5 hB45 ht5 hld3
                        go_wp2_with fail
                        refine hsd.mono ?_
                        rintro e w6 ⟨rfl, T6, hat6, hF6⟩
                        have hmv := HT3.out.1.move HW5.out.2.2.1 hF6 hbC hbS
                        have hk6 := hmv.2.2 w4.heap.size _ HW5.out.2.2.2 HW5.out.1
                        have hld6 := (ld_side hk6 rfl).1
                        have hs6 := hmv.2.1.size
                        have hrow6 := HW5.out.2.1.foot hF6 hmv.2.1
                        have efr : s.free z = { s with sent := s.sent.drop U, first := ((z + 1) % 128).toNat } := by unfold Hs.free; rw [HU.out.1]
                        have hbes6 : Beside w6 w.heap.size b (S + 1) T6 (s.free z) lo4 n4 cap4 := ⟨hat6, by rw [efr]; exact hrow6, by omega, Fine_small hat6.fine (by rw [efr]; show s.most ≤ 40; rw [HT3.out.1.most]; omega)⟩
                        obtain ⟨w7, hst7, htw7, hB7, -⟩ := Twin.step (m := m) (o := o) (a := A5) (f := F5) hbes6 hmv.1 rfl (by omega) (by omega) (by rw [efr]; exact HT3.out.1.most) (by rw [efr]; exact HT3.out.1.oct) (by have := HU.out; rw [efr]; simp only [List.length_drop]; omega) (by have := HU.out; rw [efr]; simp only; omega)
                        have HF : Hid (Twin w7 w.heap.size b S m o (s.free z) T6 lo4 n4 cap4 ∧ Below w.heap.size w w7) := ⟨htw7, HB.out.trans ((below_le (HT3.out.2.trans (below_le HW5.out.2.2.1 hsW3)) HB.out.size).trans (hmv.2.1.trans hB7))⟩
                        clear hsd hat6 hF6 hmv hk6 hrow6 efr hbes6 htw7 hB7 hs6 HW5
                        go_wp2
                        go_meet
                        case rel => exact ⟨⟨_, _, _, _, _, HF.out.1⟩, HF.out.2⟩
                · by_cases q88 : q = 8
                  · as_aux_lemma =>
                      obtain ⟨⟨c0, c1, -, -, -⟩, -⟩ := side_cells ht.blk
                      have hfl := fun Y (hY : Below W.heap.size W Y) => flush_any b (S + 1) T s Y (ht.bes.hold.below hY)
                      have hlen := ht.bes.row.len.1
                      rw [List.length_append] at hlen
                      have e1 : (n : Int) - (s.sent.length : Int) = (s.next.length : Int) := by omega
                      have hsm := ht.bes.small
                      have r1 : IntKind.i64.wrap (s.next.length : Int) = (s.next.length : Int) := wrap_small (by omega) (by omega)
                      have HS : Hid (∀ Y : World, Y.heap[S]? = W.heap[S]? → Y.cell? ⟨S, 0, none⟩ = some (.slice lo n cap) ∧ Y.cell? ⟨S, 1, none⟩ = some (.int .i64 s.sent.length)) := fun Y hY => ⟨(side_cells (hY.trans HT.out.blk)).1.1, (side_cells (hY.trans HT.out.blk)).1.2.1⟩
                      have hY0 : W.drew.heap[S]? = W.heap[S]? := rfl
                      have hD : Below W.heap.size W W.drew := (Below.refl _ _).drew
                      clear x0 x1 x2 xz hBX hrW ht hlen hsm c0 c1
                      subst q88
                      go_wp2_with fail
                      go_region_held (fun Y => Y.cell? ⟨S, 0, none⟩ = some (.slice lo n cap) ∧ Y.cell? ⟨S, 1, none⟩ = some (.int .i64 s.sent.length)) ((refine HS.out _ ?_; assumption))
                        ((go_at_call 17; refine (hfl _ hD).mono ?_; rintro e w3 ⟨rfl, T3, hat3, hF3⟩; have hmv := HT.out.move hD hF3 hbC hbS; have hY3 : w3.heap[S]? = W.heap[S]? := hmv.1.trans HT.out.blk.symm))
                      have hld3 := (ld_side hmv.1 rfl).1
                      have hCW := HB.out.size
                      have hrow3 := (HT.out.bes.row.below hD hCW).foot hF3 hmv.2.1
                      have hs3 := hmv.2.1.size
                      have hrf := rflush_row s.first m o tl0 hrow3 (by simp at hs3; omega)
                      have HM : Hid (HoldAt w3 b (S + 1) T3 { s with next := [] } ∧ Below w.heap.size w w3 ∧ w3.heap[S]? = some (.cells (sideC (.slice lo n cap) s.sent.length s.first m o tl0) 29 (0, 0))) := ⟨hat3, HB.out.trans ((below_le hD hCW).trans hmv.2.1), hmv.1⟩
                      clear hfl hat3 hF3 hmv hrow3 hs3 hld hY3 hY0 hD e1 r1
                      go_wp2_with fail
                      refine hrf.mono ?_
                      rintro e w4 ⟨rfl, hrow4, hB4⟩
                      have hat4 := HM.out.1.below hB4
                      have hS4 := (hB4.block _ (heap_lt HM.out.2.2)).trans HM.out.2.2
                      have hs4 := hB4.size
                      have hw3s := HM.out.2.1.size
                      have hbes4 : Beside w4 w.heap.size b (S + 1) T3 { s with next := [] } lo s.sent.length cap := ⟨hat4, by simpa using hrow4, by omega, by simp⟩
                      obtain ⟨w5, hst5, htw5, hB5, -⟩ := Twin.step (m := m) (o := o) (a := s.sent.length) (f := s.first) hbes4 hS4 rfl (by omega) (by omega) HT.out.most HT.out.oct rfl rfl
                      have HF : Hid (Twin w5 w.heap.size b S m o { s with next := [] } T3 lo s.sent.length cap ∧ Below w.heap.size w w5) := ⟨htw5, HM.out.2.1.trans ((below_le hB4 (by omega)).trans hB5)⟩
                      clear hrf hrow4 hB4 hat4 hS4 hbes4 htw5 hB5 hld3
                      go_wp2
                      go_meet
                      case rel => exact ⟨⟨_, _, _, _, _, HF.out.1⟩, HF.out.2⟩
                  · as_aux_lemma =>
                      have hcl := clear_any b (S + 1) T s W ht.bes.hold
                      have e8 : (q == 8) = false := by rw [beq_eq_false_iff_ne]; exact q88
                      clear x0 x1 x2 xz hBX hrW ht hld
                      go_wp2_with fail
                      refine hcl.mono ?_
                      rintro e w3 ⟨rfl, T3, hat3, hF3⟩
                      have hmv := HT.out.move (Below.refl _ _) hF3 hbC hbS
                      go_wp2_with fail
                      refine (rnew_any m o w3).mono ?_
                      rintro e w4 ⟨rfl, hB4⟩
                      have hCW := HB.out.size
                      have hs3 := hmv.2.1.size
                      have hs4 := hB4.size
                      have hbes4 : Beside w4 w.heap.size b (S + 1) T3 ⟨s.most, s.oct, 0, [], []⟩ none 0 0 := ⟨hat3.below hB4, ⟨[], RowAt.nil _, trivial, fun ad e => by cases e⟩, by omega, by simp⟩
                      have hS4 := (hB4.block _ (heap_lt hmv.1)).trans hmv.1
                      obtain ⟨w5, hst5, htw5, hB5, -⟩ := Twin.step (m := m) (o := o) (a := 0) (f := 0) hbes4 hS4 rfl (by omega) (by omega) HT.out.most HT.out.oct rfl rfl
                      have HF : Hid (Twin w5 w.heap.size b S m o ⟨s.most, s.oct, 0, [], []⟩ T3 none 0 0 ∧ Below w.heap.size w w5) := ⟨htw5, HB.out.trans (hmv.2.1.trans ((below_le hB4 (by omega)).trans hB5))⟩
                      unfold tl0 at hst5
                      clear hcl hat3 hF3 hmv hbes4 hS4 htw5 hB5 hB4
                      go_wp2
                      go_meet
                      case rel => exact ⟨⟨_, _, _, _, _, HF.out.1⟩, HF.out.2⟩
          case rest =>
            obtain ⟨⟨s, T, lo, n, cap, ht⟩, hBc⟩ := hcut
            have hld := (ld_side ht.blk rfl).1
            have htold := told_any w.heap.size b (S + 1) T s lo n cap m o tl0 wc ht.bes
            have HT : Hid (Twin wc w.heap.size b S m o s T lo n cap) := ht
            clear ht
            go_wp2_with (go_at_call 20; refine htold.mono ?_; rintro e w9 ⟨rfl, hB9⟩)
            go_roundw
            case rel => exact ⟨k + 1, by omega, by go_num, ⟨s, T, lo, n, cap, HT.out.below hB9⟩, hBc.trans (below_le hB9 hBc.size)⟩
            case measure => simp [intOf]; omega
      · obtain rfl : k = N := by omega
        clear hlt hk
        go_wp2
        go_ret
        exact ⟨rfl, hBr⟩
end Go.Proofs.Ytgdbpblojncjhaa.Tape
