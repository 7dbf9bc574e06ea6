/- The contracts of the reference's Octets, Check, Whole and Right. -/
import Derived.Test.YtfjfnfofbhikdaaRest2
namespace Go.Proofs.Ytfjfnfofbhikdaa.Tape
open Go.ChangeShapes Go.WideShapes Go.ChangeAt Go.RowKit

/-- The octet of bits j on, where the highest comes first: what the reference has behind 7, 6 .. j. -/
def high (bs : List Bool) : Nat → Int
  | 0 => 0
  | m + 1 => 2 * high bs m + if bs.getD (7 - m) false then 1 else 0
theorem high_range (bs : List Bool) : ∀ m, 0 ≤ high bs m ∧ high bs m < 2 ^ m
  | 0 => by simp [high]
  | m + 1 => by
    have h := high_range bs m
    have : (2 : Int) ^ (m + 1) = 2 * 2 ^ m := by rw [Int.pow_succ]; omega
    simp only [high]
    split <;> omega
theorem high_low (bs : List Bool) : high bs 8 = low bs 8 := by
  simp only [high, low]
  simp
  generalize bs[0]?.getD false = b0
  generalize bs[1]?.getD false = b1
  generalize bs[2]?.getD false = b2
  generalize bs[3]?.getD false = b3
  generalize bs[4]?.getD false = b4
  generalize bs[5]?.getD false = b5
  generalize bs[6]?.getD false = b6
  generalize bs[7]?.getD false = b7
  revert b0 b1 b2 b3 b4 b5 b6 b7
  decide +kernel

set_option maxRecDepth 100000 in
set_option maxHeartbeats 1000000 in
theorem roctets_any (ao : Option Addr) (cap n N : Nat) (bs : List Bool) (w : World) (hn : bs.length = n) (hN : N = n / 8) (hl : n ≤ 1000000) (h : Reads w ao (bs.map .bool)) :
    Calls Try.prog 38 #[.slice ao n cap] w fun e w' => ∃ v, e = .returned v ∧ w'.ownsRow w.heap.size 5 1 v N ((octsTo bs N).map (.int .u8)) ∧ Below w.heap.size w w' := by
  obtain ⟨i0, hi, hz0, hz1, hz2⟩ := info_parts info5
  have HN : Hid (N = n / 8) := hN
  have HB : Hid (bs.length = n) := hn
  have hN1 : 8 * N ≤ n := by omega
  have hN2 : n < 8 * N + 8 := by omega
  clear hN hn
  go_enter Try.func38, Try.ntmps38
  go_wp2
  go_loopw [3, 4] (fun v i wr => ∃ k : Nat, k ≤ N ∧ i = .int .i64 (8 * (k : Int)) ∧ wr.ownsRow w.heap.size 5 1 v k ((octsTo bs k).map (.int .u8)) ∧ Below w.heap.size w wr) (fun _ i _ => n + 8 - (intOf i).toNat)
  case atStart => exact ⟨0, by omega, rfl, World.ownsRow_nil _ _ _ _, Below.refl _ _⟩
  case round =>
    obtain ⟨k, hk, rfl, hown, hbl⟩ := hrel
    have hsz := hbl.size
    have hrd := h.below (Nat.le_refl _) hbl
    by_cases hlt : k < N
    · go_wp2
      go_loop [5, 6] (fun b j => ∃ m : Nat, m ≤ 8 ∧ j = .int .i64 (7 - (m : Int)) ∧ b = .int .u8 (high (bs.drop (8 * k)) m)) (fun _ j => (intOf j + 1).toNat)
      case atStart => exact ⟨0, by omega, rfl, rfl⟩
      case round =>
        obtain ⟨m, hm, rfl, rfl⟩ := hrel
        have hhr := high_range (bs.drop (8 * k)) m
        by_cases hm8 : m < 8
        · obtain ⟨q, hq⟩ : ∃ q : Nat, q = 8 * k + (7 - m) := ⟨_, rfl⟩
          have hqe : (8 * (k : Int) + (7 - (m : Int))) = (q : Int) := by omega
          have hqn : q < n := by omega
          have hqb : q < bs.length := by have := HB.out; omega
          obtain ⟨g, off, rfl, hc⟩ := hrd.bool q hqb
          have HG : Hid ((bs.drop (8 * k)).getD (7 - m) false = bs[q]) := by
            show _ = _
            simp [List.getD, ← hq, hqb]
          have hh : high (bs.drop (8 * k)) m < 128 := by
            have h2 := pow_lt m hm8
            omega
          obtain ⟨y, hy⟩ : ∃ y, y = high (bs.drop (8 * k)) m := ⟨_, rfl⟩
          have HY : Hid (y = high (bs.drop (8 * k)) m) := hy
          rw [← hy] at hhr hh ⊢
          have hy0 := hhr.1
          generalize bs[q] = b at hc HG
          have k1 : (0 : Int) ≤ (q : Int) := by omega
          have k2 : (q : Int) < (n : Int) := by omega
          have HQ : Hid (q = 8 * k + (7 - m)) := hq
          clear hq hy hhr
          cases b
          · go_wp2
            go_round
            case rel => exact ⟨m + 1, by omega, by go_num, by rw [high, HG.out, ← HY.out]; simp; omega⟩
            case measure => simp [intOf]; omega
          · go_wp2
            go_round
            case rel => exact ⟨m + 1, by omega, by go_num, by rw [high, HG.out, ← HY.out]; simp; omega⟩
            case measure => simp [intOf]; omega
        · obtain rfl : m = 8 := by omega
          rw [high_low]
          have hnew : Hid (octsTo bs (k + 1) = octsTo bs k ++ [low (bs.drop (8 * k)) 8]) := octsTo_succ bs k
          generalize low (bs.drop (8 * k)) 8 = y at hnew ⊢
          go_wp2_with (at_builtin; refine wpList_append_own _ rfl _ _ 22 rfl w.heap.size 5 i0 (.int .u8 0) 1 1 Try.underlying22 hi hz0 hz1 hz2 rfl (by decide) _ _ _ rfl (hown.alloc _) ⟨wr.heap.size, 0, none⟩ 1 1 [.int .u8 y] rfl rfl (cell_one_new _ _ _) (by simp [Value.oneCell']) (by unfold maxLen; omega) (by omega) (by simp; omega) ?_; intro v' w2 hown' hgrow _)
          have hbl2 := (hbl.alloc hsz _).grown hgrow (by simp; omega) (fun k hk => (hown.lt k hk).1)
          have hown2 : w2.ownsRow w.heap.size 5 1 v' (k + 1) ((octsTo bs (k + 1)).map (.int .u8)) := by rw [hnew.out, List.map_append]; exact hown'
          clear hown' hgrow hown
          go_wp2
          go_roundw
          case rel => exact ⟨k + 1, by omega, by go_num, hown2, hbl2⟩
          case measure => simp [intOf]; omega
    · obtain rfl : k = N := by omega
      have hnl : ¬ (8 * (k : Int) + 8 ≤ (n : Int)) := by omega
      go_wp2
      go_ret
      exact ⟨_, rfl, hown, hbl⟩

/-- The reference's register as Go has it. -/
def rnum (x : BitVec 16) : Int := (x.reverse.toNat : Int)
theorem rnum_range (x : BitVec 16) : 0 ≤ rnum x ∧ rnum x < 65536 := by have := x.reverse.isLt; unfold rnum; omega
theorem rnum_top (x : BitVec 16) : rnum x / 32768 % 2 = if x.getLsbD 0 then 1 else 0 := by
  have h := top_bit x
  unfold rnum
  split
  · have := h.2 (by assumption); omega
  · have := mt h.1 (by assumption); omega
theorem rnum_stp (x : BitVec 16) (on : Bool) : rnum (stp x on) = if (x.getLsbD 0 ^^ on) then Go.bits BinOp.xor IntKind.u32 (rnum x * 2 % 65536) 4129 else rnum x * 2 % 65536 := by
  rw [u32_xor (rnum x * 2 % 65536) 4129 (by omega) (by omega) (by decide) (by decide), rnum, rev_nat]
  have h2 : (rnum x * 2 % 65536).toNat = x.reverse.toNat * 2 % 65536 := by unfold rnum; omega
  rw [h2]
  split
  · rfl
  · unfold rnum; omega
theorem rnum_out (x : BitVec 16) (k : Nat) (hk : k < 16) : ((65535 - rnum x) / 2 ^ (15 - k) % 2 == 1) = (~~~x).getLsbD k := by
  have h := out_bit x k hk
  have hlt := x.reverse.isLt
  rw [Bool.eq_iff_iff, beq_iff_eq, ← h]
  unfold rnum
  have e : (65535 - (x.reverse.toNat : Int)) / 2 ^ (15 - k) % 2 = (((65535 - x.reverse.toNat) / 2 ^ (15 - k) % 2 : Nat) : Int) := by
    have : (65535 - (x.reverse.toNat : Int)) = ((65535 - x.reverse.toNat : Nat) : Int) := by omega
    rw [this]; simp
  rw [e]
  omega

set_option maxRecDepth 100000 in
set_option maxHeartbeats 1000000 in
theorem rcheck_any (ao : Option Addr) (cap n : Nat) (xs : List Int) (w : World) (hn : xs.length = n) (hl : n ≤ 100000) (hx : ∀ x ∈ xs, 0 ≤ x ∧ x ≤ 255) (h : Reads w ao (xs.map (.int .u8))) :
    Calls Try.prog 36 #[.slice ao n cap] w fun e w' => ∃ v, e = .returned v ∧ w'.ownsRow w.heap.size 5 1 v 2 ((chk xs).map (.int .u8)) ∧ Below w.heap.size w w' := by
  obtain ⟨r0, hr0⟩ : ∃ r : BitVec 16, r = 0xffff#16 := ⟨_, rfl⟩
  have hN : Hid ((65535 : Int) = rnum r0) := by show _ = _; rw [hr0]; decide
  have HR0 : Hid (r0 = 0xffff#16) := hr0
  clear hr0
  go_enter Try.func36, Try.ntmps36
  go_wp2_with fail
  refine (rbits_n _ _ _ _ _ hn hl hx h).mono ?_
  rintro e w1 ⟨v, rfl, hown, hb1⟩
  obtain ⟨vo, ca, rfl, hca, hr, -⟩ := owns_form hown
  obtain ⟨bs, hbs⟩ : ∃ bs, bs = bits xs := ⟨_, rfl⟩
  have HBS : Hid (bs = bits xs) := hbs
  have HB : Hid (bs.length = 8 * n) := by show _ = _; rw [hbs, bits_len, hn]
  rw [← hbs] at hr
  obtain ⟨M, hM⟩ : ∃ M, M = 8 * n := ⟨_, rfl⟩
  have hM1 : M ≤ 800000 := by omega
  rw [← hM] at hca HB ⊢
  clear hbs hM hown hx
  go_wp2
  go_loop [4, 5] (fun r i => ∃ k : Nat, k ≤ M ∧ i = .int .i64 k ∧ r = .int .u32 (rnum (crc r0 (bs.take k)))) (fun _ i => M - (intOf i).toNat)
  case atStart => exact ⟨0, by omega, rfl, by rw [hN.out]; rfl⟩
  case round =>
    obtain ⟨k, hk, rfl, rfl⟩ := hrel
    obtain ⟨x, hx⟩ : ∃ x, x = crc r0 (bs.take k) := ⟨_, rfl⟩
    have HX : Hid (x = crc r0 (bs.take k)) := hx
    rw [← hx]
    clear hx
    obtain ⟨hx0, hx1⟩ := rnum_range x
    by_cases hlt : k < M
    · have hkb : k < bs.length := by have := HB.out; omega
      obtain ⟨g, off, rfl, hc⟩ := hr.bool k hkb
      have HT : Hid (crc r0 (bs.take (k + 1)) = stp x bs[k]) := by show _ = _; rw [HX.out]; exact crc_take r0 bs k hkb
      have HP := fun on => rnum_stp x on
      have htop := rnum_top x
      generalize bs[k] = b at hc HT
      have HP : Hid (rnum (crc r0 (bs.take (k + 1))) = if (x.getLsbD 0 ^^ b) then Go.bits BinOp.xor IntKind.u32 (rnum x * 2 % 65536) 4129 else rnum x * 2 % 65536) := by show _ = _; rw [HT.out]; exact HP b
      generalize rnum x = a at htop hx0 hx1 HP ⊢
      generalize x.getLsbD 0 = t at htop HP
      cases t <;> cases b
      all_goals
        simp only [if_true, Bool.false_eq_true, if_false] at htop
        go_wp2
        go_round
        case rel => exact ⟨k + 1, by omega, by go_num, by rw [HP.out]; rfl⟩
        case measure => simp [intOf]; omega
    · have HE : Hid (x = left xs) := by show _ = _; rw [HX.out, HR0.out, List.take_of_length_le (by have := HB.out; omega), HBS.out]; rfl
      have HO := fun j (hj : j < 16) => rnum_out x j hj
      obtain ⟨V, hV⟩ : ∃ V : BitVec 16, V = ~~~x := ⟨_, rfl⟩
      have HV : Hid (V = ~~~x) := hV
      obtain ⟨a, ha⟩ : ∃ a : Int, a = 65535 - rnum x := ⟨_, rfl⟩
      rw [← hV, ← ha] at HO
      have ha0 : 0 ≤ a := by omega
      have ha1 : a < 65536 := by omega
      have hx2 : rnum x = 65535 - a := by omega
      have e65 : (65535 : Int) - (65535 - a) = a := by omega
      rw [hx2]
      clear hV ha hx0 hx1 hx2 HX
      have HO : Hid (∀ j, j < 16 → (a / 2 ^ (15 - j) % 2 == 1) = V.getLsbD j) := HO
      have hnew := heap_alloc_new w1 (.cells (List.replicate 16 (Value.bool false)).toArray 82)
      have hB1 : Below w1.heap.size w1 (w1.alloc (.cells (List.replicate 16 (Value.bool false)).toArray 82)) := (Below.refl _ _).alloc (Nat.le_refl _) _
      have HW : Hid (Below w1.heap.size w1 (w1.alloc (.cells (List.replicate 16 (Value.bool false)).toArray 82)) ∧ (w1.alloc (.cells (List.replicate 16 (Value.bool false)).toArray 82)).heap[w1.heap.size]? = some (.cells (List.replicate 16 (Value.bool false)).toArray 82 (0, 0))) := ⟨hB1, hnew⟩
      clear hB1 hnew
      go_wp2
      clear e65
      go_loopw [9] (fun i wr => ∃ (j : Nat) (row : List Value), j ≤ 16 ∧ i = .int .i64 j ∧ wr.heap[w1.heap.size]? = some (.cells row.toArray 82 (0, 0)) ∧ row.length = 16 ∧ row.take j = (bitsK V j).map .bool ∧ Below w1.heap.size w1 wr) (fun i _ => 16 - (intOf i).toNat)
      case atStart => exact ⟨0, List.replicate 16 (.bool false), by omega, rfl, HW.out.2, by simp, by simp [bitsK], HW.out.1⟩
      case round =>
        clear HW
        obtain ⟨j, row, hj, rfl, hg, hrl, htk, hbl⟩ := hrel
        have hsz := hbl.size
        by_cases hlj : j < 16
        · have hcu : wr.cell? ⟨w1.heap.size, j, none⟩ = some row[j] := by rw [Lib.cell_of_heap hg]; simp [hrl, hlj]
          have hfz : wr.frozen? ⟨w1.heap.size, j, none⟩ = false := Lib.frozen_of_heap hg j
          generalize row[j] = old at hcu
          have hset := row_set hg j (.bool (V.getLsbD j))
          have HS : Hid ((wr.setCell ⟨w1.heap.size, j, none⟩ (.bool (V.getLsbD j))).heap[w1.heap.size]? = some (.cells (row.set j (.bool (V.getLsbD j))).toArray 82 (0, 0))) := hset
          have HT : Hid ((row.set j (.bool (V.getLsbD j))).take (j + 1) = (bitsK V (j + 1)).map .bool) := by
            show _ = _
            rw [list_take_set row j _ (by omega), htk, bitsK_succ, List.map_append]; rfl
          have HL : Hid (row.length = 16) := hrl
          have ho := HO.out j hlj
          generalize V.getLsbD j = b at ho HS HT
          clear hset hg htk hrl
          have s1 : (15 : Int) - (j : Int) = ((15 - j : Nat) : Int) := by omega
          obtain ⟨t, ht⟩ : ∃ t : Nat, t = 15 - j := ⟨_, rfl⟩
          rw [← ht] at s1 ho
          have ht15 : t ≤ 15 := by omega
          have ho' : ((a / 2 ^ t).tmod 2 == 1) = b := by
            rw [Int.tmod_eq_emod_of_nonneg (Int.ediv_nonneg ha0 (Int.le_of_lt (Int.pow_pos (by decide))))]; exact ho
          clear ht ho
          go_wp2
          go_roundw
          case rel => exact ⟨j + 1, _, by omega, by go_num, HS.out, by rw [List.length_set]; exact HL.out, HT.out, hbl.setCell (p := ⟨w1.heap.size, j, none⟩) (Nat.le_refl _) _⟩
          case measure => simp [intOf]; omega
        · obtain rfl : j = 16 := by omega
          have hrow : row = (bitsK V 16).map .bool := by rw [← htk, List.take_of_length_le (by omega)]
          have hrd : Reads wr (some ⟨w1.heap.size, 0, none⟩) ((bitsK V 16).map .bool) := by
            rw [← hrow]
            intro i u hi
            exact ⟨_, _, rfl, by rw [Lib.cell_of_heap hg]; simpa using hi⟩
          have HC : Hid (octsTo (bitsK V 16) 2 = chk xs) := by show _ = _; rw [octs_two, HV.out, HE.out]; rfl
          have hBB := hb1.trans (hbl.mono hb1.size)
          clear hg hrow htk hrl hbl
          go_wp2_with (go_at_call 38; refine (roctets_any _ _ 16 2 (bitsK V 16) _ (bitsK_len V 16) rfl (by omega) hrd).mono ?_; rintro e w3 ⟨v3, rfl, hown3, hb3⟩)
          rw [HC.out] at hown3
          go_ret
          exact ⟨_, rfl, owns_lower hown3 hBB.size, hBB.trans (hb3.mono hBB.size)⟩

set_option maxRecDepth 100000 in
set_option maxHeartbeats 1000000 in
theorem whole_any (ao : Option Addr) (cap n : Nat) (xs : List Int) (w : World) (hn : xs.length = n) (hl : n ≤ 100000) (hx : ∀ x ∈ xs, 0 ≤ x ∧ x ≤ 255) (hnil : ao = none → cap = 0) (h : Reads w ao (xs.map (.int .u8))) :
    Calls Try.prog 19 #[.slice ao n cap] w fun e w' => ∃ v, e = .returned v ∧ w'.ownsRow w.heap.size 5 1 v (n + 2) ((xs ++ chk xs).map (.int .u8)) ∧ Below w.heap.size w w' := by
  go_enter Try.func19, Try.ntmps19
  go_wp2_with (at_builtin; refine append_reads rfl _ _ rfl w.heap.size _ 0 [] rfl (World.ownsRow_nil _ _ _ _) ao n cap xs rfl hn h hnil (by omega) (Nat.le_refl _) ?_; intro v1 w1 hown1 hb1)
  rw [Nat.zero_add, List.nil_append] at hown1
  have h1 := h.below (Nat.le_refl _) hb1
  have hs1 := hb1.size
  go_wp2_with fail
  refine (rcheck_any _ _ _ _ _ hn hl hx h1).mono ?_
  rintro e w2 ⟨v2, rfl, hown2, hb2⟩
  obtain ⟨vo, ca, rfl, hca, hr2, hvn⟩ := owns_form hown2
  have hown1' := owns_below hown1 hb2
  have hs2 := hb2.size
  have hB2 := hb1.trans (hb2.mono hs1)
  clear hown1 hown2
  go_wp2_with (at_builtin; refine append_reads rfl _ _ rfl w.heap.size _ n _ rfl hown1' vo 2 ca (chk xs) rfl rfl hr2 (by rintro rfl; rcases hvn with ⟨_, h, _⟩ | ⟨g, hg⟩ <;> simp_all) (by omega) (by omega) ?_; intro v3 w3 hown3 hb3)
  rw [← List.map_append] at hown3
  go_wp2
  go_ret
  exact ⟨_, rfl, hown3, hB2.trans hb3⟩

theorem str_inj {a b : List Int} (ha : ∀ x ∈ a, 0 ≤ x ∧ x ≤ 255) (hb : ∀ x ∈ b, 0 ≤ x ∧ x ≤ 255) (h : str a = str b) : a = b := by
  have h' : (a.map fun n => UInt8.ofNat n.toNat) = b.map fun n => UInt8.ofNat n.toNat := by
    have := congrArg (fun s : ByteArray => s.data.toList) h
    simpa [str] using this
  have hl : a.length = b.length := by simpa using congrArg List.length h'
  apply List.ext_getElem hl
  intro i h1 h2
  have e : UInt8.ofNat a[i].toNat = UInt8.ofNat b[i].toNat := by
    have := List.getElem_of_eq h' (i := i) (by simpa using h1)
    simpa using this
  have ra := ha _ (List.getElem_mem h1)
  have rb := hb _ (List.getElem_mem h2)
  have e' := congrArg UInt8.toNat e
  simp only [UInt8.toNat_ofNat'] at e'
  rw [Nat.mod_eq_of_lt (by omega), Nat.mod_eq_of_lt (by omega)] at e'
  omega

end Go.Proofs.Ytfjfnfofbhikdaa.Tape
