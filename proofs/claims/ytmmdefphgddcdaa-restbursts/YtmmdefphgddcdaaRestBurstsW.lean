/- The walk of the law RestBursts: it returns true and writes nothing that was there. -/
import Derived.Test.YtmmdefphgddcdaaRest4
namespace Go.Proofs.Ytmmdefphgddcdaa.Tape
open Go.ChangeShapes Go.WideShapes Go.ChangeAt Go.RowKit

theorem num_of (c : Int) (h0 : 0 ≤ c) (h1 : c ≤ 65535) : ∃ T : BitVec 16, num T = c := by
  refine ⟨BitVec.ofNat 16 c.toNat, ?_⟩
  unfold num
  rw [BitVec.toNat_ofNat, Nat.mod_eq_of_lt (by omega)]
  omega

theorem num_bit (T : BitVec 16) (i : Nat) : ((num T / 2 ^ i) % 2 == 1) = T.getLsbD i := by
  have h := bit_nat T.toNat i
  rw [BitVec.getLsbD, ← h, bitAt, num]
  rw [Bool.eq_iff_iff, beq_iff_eq, decide_eq_true_iff]

def anyTo (T : BitVec 16) (i : Nat) : Bool := (List.range i).any T.getLsbD
theorem anyTo_succ (T : BitVec 16) (i : Nat) : anyTo T (i + 1) = (anyTo T i || T.getLsbD i) := by simp [anyTo, List.range_succ]

/-- A cell of an owned row is stored. -/
theorem owns_set {w : World} {base : Nat} {e : TypeId} {g n cap : Nat} {vs : List Value} (h : w.ownsRow base e 1 (.slice (some ⟨g, 0, none⟩) n cap) n vs) (k : Nat) (v : Value) :
    (w.setCell ⟨g, k, none⟩ v).ownsRow base e 1 (.slice (some ⟨g, 0, none⟩) n cap) n (vs.set k v) := by
  rcases h.2 with ⟨h0, _⟩ | ⟨g', cap', cur, hv, hB, hg, h1, h2, h3, h4⟩
  · cases h0
  · simp only [Value.slice.injEq, Option.some.injEq, Addr.mk.injEq, and_true, true_and] at hv
    obtain ⟨rfl, rfl⟩ := hv
    have hs := row_set (cs := cur.toList) (by simpa using hg) k v
    refine ⟨by simpa using h.1, .inr ⟨g, cap, (cur.toList.set k v).toArray, rfl, hB, hs, h1, h2, by simpa using h3, ?_⟩⟩
    rw [← h4]
    simp [List.take_set]

theorem owns_cell {w : World} {base : Nat} {e : TypeId} {g n cap : Nat} {vs : List Value} (h : w.ownsRow base e 1 (.slice (some ⟨g, 0, none⟩) n cap) n vs) (k : Nat) (hk : k < vs.length) :
    w.cell? ⟨g, k, none⟩ = some vs[k] ∧ w.frozen? ⟨g, k, none⟩ = false ∧ base ≤ g := by
  rcases h.2 with ⟨h0, _⟩ | ⟨g', cap', cur, hv, hB, hg, h1, h2, h3, h4⟩
  · cases h0
  · simp only [Value.slice.injEq, Option.some.injEq, Addr.mk.injEq, and_true, true_and] at hv
    obtain ⟨rfl, rfl⟩ := hv
    have hc := h.cells rfl k vs[k] (by simp [hk])
    rw [Addr.add_lit] at hc
    refine ⟨by simpa using hc, ?_, hB⟩
    have hg' : w.heap[g]? = some (.cells cur.toList.toArray e (0, 0)) := by simpa using hg
    exact Lib.frozen_of_heap hg' k

theorem turnTo_start (bs : List Bool) (k : Nat) (T : BitVec 16) : ∀ j, j ≤ k → turnTo bs (mask k T) j = bs
  | 0, _ => turnTo_zero bs _
  | j + 1, h => by
    rw [turnTo_no _ _ _ (by rw [mask_get]; simp [show ¬ k ≤ j from by omega]), turnTo_start bs k T j (by omega)]

theorem burst_end (xs : List Int) (n k I : Nat) (T : BitVec 16) (hn : xs.length = n) (hk : k < 8 * (n + 2)) (hI : I ≤ 16) (hM : k + I ≤ 8 * (n + 2)) (hend : I = 16 ∨ 8 * (n + 2) ≤ k + I) :
    decide (2 ≤ n + 2 ∧ left (octsTo (turnTo (bits (xs ++ chk xs)) (mask k T) (k + I)) (n + 2)) = good) = !(anyTo T I) := by
  have hlen : (bits (xs ++ chk xs)).length = 8 * (n + 2) := by rw [bits_len, List.length_append, hn]; rfl
  have ht : turnTo (bits (xs ++ chk xs)) (mask k T) (k + I) = turn (bits (xs ++ chk xs)) (mask k T) := by
    apply turnTo_end
    rw [hlen, mask_len]
    omega
  have hl : left (octsTo (turn (bits (xs ++ chk xs)) (mask k T)) (n + 2)) = crc 0xffff#16 (turn (bits (xs ++ chk xs)) (mask k T)) := by
    rw [left, bits_octs _ _ (by rw [turn_len, hlen])]
  have hg : crc 0xffff#16 (bits (xs ++ chk xs)) = good := left_whole xs
  rw [ht, hl]
  cases hany : anyTo T I
  · have hno : turn (bits (xs ++ chk xs)) (mask k T) = bits (xs ++ chk xs) := by
      apply no_burst
      intro i hi hin
      rw [hlen] at hin
      have hiI : i < I := by omega
      cases hb : T.getLsbD i
      · rfl
      · have : anyTo T I = true := by
          rw [anyTo, List.any_eq_true]
          exact ⟨i, by simpa using hiI, hb⟩
        rw [hany] at this; cases this
    rw [hno, hg]
    simp
  · obtain ⟨i, hi, hb⟩ : ∃ i, i < I ∧ T.getLsbD i = true := by
      rw [anyTo, List.any_eq_true] at hany
      obtain ⟨i, hi, hb⟩ := hany
      exact ⟨i, by simpa using hi, hb⟩
    have hne := burst (8 * (n + 2)) k T hk i (by omega) (by omega) hb
    rw [crc_turn, hg, hlen]
    have : ¬ (good ^^^ crc 0#16 ((List.range (8 * (n + 2))).map fun j => (mask k T).getD j false) = good) := by
      intro e
      apply hne
      have e2 : good ^^^ (good ^^^ crc 0#16 ((List.range (8 * (n + 2))).map fun j => (mask k T).getD j false)) = good ^^^ good := by rw [e]
      rwa [← BitVec.xor_assoc, BitVec.xor_self, BitVec.zero_xor] at e2
    simp only [this, and_false, decide_false, Bool.not_true]

theorem rem_in (n : Nat) (c : Int) (h : 0 < n) : ∃ H : Nat, c % (n : Int) = H ∧ H < n := by
  have h1 := Int.emod_lt_of_pos c (show (0 : Int) < n by omega)
  have h2 := Int.emod_nonneg c (show (n : Int) ≠ 0 by omega)
  exact ⟨(c % n).toNat, by omega, by omega⟩

set_option maxRecDepth 100000 in
set_option maxHeartbeats 2000000 in
theorem bursts_walk (ao : Option Addr) (cap : Nat) (xs : List Int) (c d : Int) (w : World) (hr : Reads w ao (xs.map (.int .u8))) (hx : ∀ x ∈ xs, 0 ≤ x ∧ x ≤ 255) (hnil : ao = none → cap = 0) (wc : (Lit.int .u16 c).wf = true) (wd : (Lit.int .u16 d).wf = true) :
    Calls Try.prog 5 #[.slice ao xs.length cap, .int .u16 c, .int .u16 d] w fun e w' => e = .returned (.bool true) ∧ Below w.heap.size w w' := by
  obtain ⟨c0, c1⟩ := bounds_u16 wc
  obtain ⟨d0, d1⟩ := bounds_u16 wd
  by_cases hlen : 300 < xs.length ∨ d = 0
  · by_cases h3 : 300 < xs.length
    · go_enter Try.func5, Try.ntmps5
      go_wp2_with fail
      refine (awake3_any _).mono ?_
      rintro e w1 ⟨rfl, hb1⟩
      go_wp2_with fail
      refine (awake3_any _).mono ?_
      rintro e w2 ⟨rfl, hb2⟩
      go_wp2
      go_ret
      exact ⟨rfl, hb1.trans (hb2.mono hb1.size)⟩
    · obtain rfl : d = 0 := by omega
      go_enter Try.func5, Try.ntmps5
      go_wp2_with fail
      refine (awake3_any _).mono ?_
      rintro e w1 ⟨rfl, hb1⟩
      go_wp2_with fail
      refine (awake3_any _).mono ?_
      rintro e w2 ⟨rfl, hb2⟩
      go_wp2
      go_ret
      exact ⟨rfl, hb1.trans (hb2.mono hb1.size)⟩
  · have h3 : xs.length ≤ 300 := by omega
    have h4 : ¬ d = 0 := by omega
    have h4' : (d == 0) = false := by rw [beq_eq_false_iff_ne]; exact h4
    clear hlen
    go_enter Try.func5, Try.ntmps5
    go_wp2_with fail
    refine (awake3_any _).mono ?_
    rintro e w1 ⟨rfl, hb1⟩
    have hr1 := hr.below (Nat.le_refl _) hb1
    go_wp2_with fail
    refine (whole_any _ _ _ _ _ rfl (by omega) hx hnil hr1).mono ?_
    rintro e w2 ⟨v, rfl, hown2, hb2⟩
    have hB2 := hb1.trans (hb2.mono hb1.size)
    obtain ⟨vo, ca, rfl, hca, hra, -⟩ := owns_form hown2
    have hxx : ∀ x ∈ xs ++ chk xs, 0 ≤ x ∧ x ≤ 255 := fun x hxm => by
      rcases List.mem_append.1 hxm with h | h
      · exact hx x h
      · exact two_range _ x h
    have hwl : (xs ++ chk xs).length = xs.length + 2 := by rw [List.length_append]; rfl
    go_wp2_with fail
    refine (rbits_n _ _ _ _ _ hwl (by omega) hxx hra).mono ?_
    rintro e w3 ⟨v3, rfl, hown3, hb3⟩
    have hB3 := hB2.trans (hb3.mono hB2.size)
    have hown3 := owns_lower hown3 hB2.size
    have HE := fun (k I : Nat) (T : BitVec 16) => burst_end xs xs.length k I T rfl
    have HLB : (bits (xs ++ chk xs)).length = 8 * (xs.length + 2) := by rw [bits_len, hwl]
    obtain ⟨bs, hbs⟩ : ∃ bs, bs = bits (xs ++ chk xs) := ⟨_, rfl⟩
    rw [← hbs] at hown3 HE HLB
    obtain ⟨n2, hn2⟩ : ∃ n2, n2 = xs.length + 2 := ⟨_, rfl⟩
    rw [← hn2] at hown3 HE HLB
    obtain ⟨M, hM⟩ : ∃ M, M = 8 * n2 := ⟨_, rfl⟩
    rw [← hM] at hown3 HE HLB
    have hM0 : 16 ≤ M := by omega
    have hM1 : M ≤ 2416 := by omega
    have hMn : Hid (M = 8 * n2) := hM
    have hn3 : n2 ≤ 302 := by omega
    have HE0 := HE
    have HLB0 := HLB
    clear HE HLB
    have HE : Hid (∀ (k I : Nat) (T : BitVec 16), k < M → I ≤ 16 → k + I ≤ M → I = 16 ∨ M ≤ k + I → decide (2 ≤ n2 ∧ left (octsTo (turnTo bs (mask k T) (k + I)) n2) = good) = !anyTo T I) := HE0
    have HLB : Hid (bs.length = M) := HLB0
    obtain ⟨M', hM'⟩ : ∃ M', M = M' + 1 := ⟨M - 1, by omega⟩
    obtain ⟨g, cb, rfl⟩ : ∃ g cb, v3 = .slice (some ⟨g, 0, none⟩) M cb := by
      rw [hM'] at hown3 ⊢
      exact ownsRow_succ hown3
    clear HE0 HLB0 hM' hM hn2 hbs hwl hxx hra hown2 hb3 hr hr1 hb1 hb2 hB2 hnil
    obtain ⟨k, hk, hkM⟩ := rem_in M c (by omega)
    obtain ⟨T, rfl⟩ := num_of d d0 d1
    have hx := num_range T
    have HBT := fun i => num_bit T i
    obtain ⟨t, ht⟩ : ∃ t : Int, t = num T := ⟨_, rfl⟩
    rw [← ht] at HBT hx h4 h4' ⊢
    have t0 := hx.1
    have t1 := hx.2
    have HBT0 : Hid (∀ i, ((t / 2 ^ i) % 2 == 1) = T.getLsbD i) := HBT
    clear ht HBT hx d0 d1 wd
    go_wp2_with fail
    rw [hk]
    clear hk
    go_loopw [9, 10] (fun s i wr => ∃ I : Nat, I ≤ 16 ∧ k + I ≤ M ∧ i = .int .i64 I ∧ s = .bool (anyTo T I) ∧ wr.ownsRow w.heap.size 4 1 (.slice (some ⟨g, 0, none⟩) M cb) M ((turnTo bs (mask k T) (k + I)).map .bool) ∧ Below w.heap.size w wr) (fun _ i _ => 16 - (intOf i).toNat)
    case atStart => exact ⟨0, by omega, by omega, rfl, rfl, by rw [Nat.add_zero, turnTo_start bs k T _ (Nat.le_refl _)]; exact hown3, hB3⟩
    case round =>
      clear hown3 hB3
      obtain ⟨I, hI, hkI, rfl, rfl, hown, hbl⟩ := hrel
      by_cases hc : I < 16 ∧ k + I < M
      · obtain ⟨hI16, hlt⟩ := hc
        obtain ⟨q, hq⟩ : ∃ q, q = k + I := ⟨_, rfl⟩
        have hqi : (k : Int) + (I : Int) = (q : Int) := by omega
        have hqb : q < bs.length := by have := HLB.out; omega
        have hlen : q < ((turnTo bs (mask k T) q).map Value.bool).length := by rw [List.length_map, turnTo_len]; exact hqb
        rw [← hq] at hown hlt
        obtain ⟨hcell, hfz, hBg⟩ := owns_cell hown q hlen
        have hval : ((turnTo bs (mask k T) q).map Value.bool)[q] = .bool bs[q] := by
          rw [List.getElem_map, turnTo_get bs _ q q hqb, if_neg (by omega)]
          simp [List.getD, hqb]
        rw [hval] at hcell
        have hmk : (mask k T).getD q false = T.getLsbD I := by rw [mask_get, hq]; simp
        have hbt : ((t / 2 ^ I).tmod 2 == 1) = T.getLsbD I := by
          rw [Int.tmod_eq_emod_of_nonneg (Int.ediv_nonneg t0 (Int.le_of_lt (Int.pow_pos (by decide))))]; exact HBT0.out I
        have hyes := fun h => turnTo_yes bs (mask k T) q bs[q] hqb rfl h
        have hno := turnTo_no bs (mask k T) q
        have hany := anyTo_succ T I
        rw [hmk] at hyes hno
        obtain ⟨z, hz⟩ : ∃ z, z = bs[q] := ⟨_, rfl⟩
        rw [← hz] at hyes hcell
        have k1 : (0 : Int) ≤ (q : Int) := by omega
        have k2 : (q : Int) < (M : Int) := by omega
        have hq1 : k + (I + 1) = q + 1 := by omega
        clear hz hval hlen hmk
        cases hb : T.getLsbD I
        · have e1 := hno hb
          have HO : Hid (wr.ownsRow w.heap.size 4 1 (.slice (some ⟨g, 0, none⟩) M cb) M ((turnTo bs (mask k T) (k + (I + 1))).map .bool)) := by show wr.ownsRow _ _ _ _ _ _; rw [hq1, e1]; exact hown
          have HA : Hid (anyTo T (I + 1) = anyTo T I) := by show _ = _; rw [hany, hb]; simp
          rw [hb] at hbt
          clear hyes hno e1 hany hown hb hq hq1
          go_wp2
          go_roundw
          case rel => exact ⟨I + 1, by omega, by omega, by go_num, by rw [HA.out], HO.out, hbl⟩
          case measure => simp [intOf]; omega
        · have e1 := hyes hb
          have HO : Hid ((wr.setCell ⟨g, q, none⟩ (.bool !z)).ownsRow w.heap.size 4 1 (.slice (some ⟨g, 0, none⟩) M cb) M ((turnTo bs (mask k T) (k + (I + 1))).map .bool)) := by
            show World.ownsRow _ _ _ _ _ _ _
            rw [hq1, e1, List.map_set]
            exact owns_set hown q (.bool !z)
          have HA : Hid (anyTo T (I + 1) = true) := by show _ = _; rw [hany, hb]; simp
          rw [hb] at hbt
          have HS : Hid (Below w.heap.size w (wr.setCell ⟨g, q, none⟩ (.bool !z))) := hbl.setCell (p := ⟨g, q, none⟩) hBg _
          clear hyes hno e1 hany hown hb hq hq1
          go_wp2
          go_roundw
          case rel => exact ⟨I + 1, by omega, by omega, by go_num, by rw [HA.out], HO.out, HS.out⟩
          case measure => simp [intOf]; omega
      · have hend : I = 16 ∨ M ≤ k + I := by omega
        have HX := HE.out k I T hkM hI hkI hend
        have HLT : Hid ((turnTo bs (mask k T) (k + I)).length = M) := by show _ = _; rw [turnTo_len]; exact HLB.out
        have hrd := Reads.of_owns hown
        obtain ⟨us, hus⟩ : ∃ us, us = turnTo bs (mask k T) (k + I) := ⟨_, rfl⟩
        rw [← hus] at HX HLT hrd
        have HX : Hid (decide (2 ≤ n2 ∧ left (octsTo us n2) = good) = !anyTo T I) := HX
        have hoc := roctets_any (some ⟨g, 0, none⟩) cb M n2 us wr HLT.out (by have := hMn.out; omega) (by omega) hrd
        have hrg := octs_range us n2
        have hol := octsTo_len us n2
        generalize octsTo us n2 = ys at hoc hrg hol HX
        clear hus hown hrd HBT0 HE
        rcases Nat.lt_or_ge I 16 with h16 | h16
        all_goals
          first | have hki : ¬ ((k : Int) + (I : Int) < (M : Int)) := by omega
                | have hki : ¬ ((I : Int) < 16) := by omega
          go_wp2_with fail
          refine hoc.mono ?_
          rintro e w4 ⟨v4, rfl, hown4, hb4⟩
          obtain ⟨vo4, ca4, rfl, hca4, hr4, -⟩ := owns_form hown4
          have hB4 := hbl.trans (hb4.mono hbl.size)
          go_wp2_with fail
          refine (right_any _ _ _ _ _ hol (by omega) hrg hr4).mono ?_
          rintro e w5 ⟨rfl, hb5⟩
          rw [HX.out]
          go_wp2
          go_ret
          exact ⟨ret_bool (by simp), hB4.trans (hb5.mono hB4.size)⟩
end Go.Proofs.Ytmmdefphgddcdaa.Tape
