/- BasicBack's walk. -/
import Derived.Test.YtdngcfojodahdaaBasic7
namespace Go.Proofs.Ytdngcfojodahdaa.Tape
open Go.ChangeShapes Go.WideShapes Go.ChangeAt Go.RowKit
set_option linter.unusedVariables false

/-- The messages 0 .. n-1. -/
def mg (i : Nat) : List Int := [(i : Int), 1, 2]
def mgs (n : Nat) : List (List Int) := (List.range n).map mg
theorem mgs_len (n : Nat) : (mgs n).length = n := by simp [mgs]
theorem mgs_succ (n : Nat) : mgs n ++ [mg n] = mgs (n + 1) := by simp [mgs, List.range_succ]
theorem sz_mgs (n : Nat) : sz (mgs n) = 3 * n := by
  induction n with
  | zero => rfl
  | succ n ih => rw [← mgs_succ, sz_append, ih]; simp [sz, mg]; omega
theorem mgs_drop (n j i : Nat) (h : i < ((mgs n).drop j).length) : ((mgs n).drop j)[i] = mg (j + i) := by
  simp [mgs]

/-- The indicator is turned, and all that waits goes again from a place on. -/
def bsK (a : Int) : Bs := { bs0 with fib := false, again := a }

/-- A message of ours, in memory. -/
theorem HMsg.three {w : World} {B : Nat} {v : Value} {x : List Int} (h : HMsg w B v x) (a b c : Int) (hx : x = [a, b, c]) : ∃ m cap, v = .slice (some ⟨m, 0, none⟩) 3 cap ∧ w.cell? ⟨m, 0, none⟩ = some (.int .u8 a) := by
  subst hx
  obtain ⟨m, cap, cur, rfl, -, -, -, hr⟩ := h.form
  obtain ⟨g, off, e, hc⟩ := hr 0 _ rfl
  simp only [Option.some.injEq, Addr.mk.injEq, and_true] at e
  obtain ⟨rfl, rfl⟩ := e
  exact ⟨m, cap, rfl, by simpa using hc⟩

attribute [local go_sem ↓] ldU_def stU_def

set_option maxRecDepth 100000 in
set_option maxHeartbeats 2000000 in
theorem back_walk (x y : Int) (w : World) (h0 : 0 ≤ x) (h1 : x ≤ 255) (h2 : 0 ≤ y) (h3 : y ≤ 255) : Calls Try.prog 5 #[.int .u8 x, .int .u8 y] w fun e w' => e = .returned (.bool true) ∧ Below w.heap.size w w' := by
  obtain ⟨n, hn⟩ : ∃ n : Nat, x % 20 = n := ⟨(x % 20).toNat, by omega⟩
  have hn20 : n < 20 := by omega
  obtain ⟨k, hk⟩ : ∃ k : Nat, (2 : Int) + n = k := ⟨n + 2, by omega⟩
  have hk2 : 2 ≤ k ∧ k ≤ 21 := by omega
  obtain ⟨j, hj⟩ : ∃ j : Nat, y % k = j := ⟨(y % k).toNat, by have := Int.emod_nonneg y (show (k : Int) ≠ 0 by omega); omega⟩
  have hjk : j < k := by have := Int.emod_lt_of_pos y (show (0 : Int) < k by omega); omega
  have HJ : Hid (y % k = j) := hj
  have HK : Hid ((2 : Int) + n = k) := hk
  clear hj hk
  go_enter Try.func5, Try.ntmps5
  go_wp2_with fail
  refine (awake11_any _).mono ?_
  rintro e w1 ⟨rfl, hB1⟩
  go_wp2_with fail
  refine (bnew_any 60 10000 w.heap.size w1 (by omega) (by omega) hB1.size).mono ?_
  rintro e w2 ⟨p, hb, T, rfl, hin2, -, hB2⟩
  have hB0 : Below w.heap.size w w2 := hB1.trans (below_le hB2 hB1.size)
  clear hB1 hB2
  go_wp2_with fail
  try rw [hn]
  try rw [HK.out]
  clear hn h0 h1
  go_loopw [7] (fun i wr => ∃ (q : Nat) (T1 : Nat → Prop), q ≤ k ∧ i = .int .i64 q ∧ BasIn wr p hb w.heap.size T1 bs0 ⟨60, 10000, 0, mgs q, []⟩ ∧ Below w.heap.size w wr) (fun i _ => k - (intOf i).toNat)
  case atStart => exact ⟨0, T, by omega, rfl, hin2, hB0⟩
  case round =>
    clear hin2 hB0
    obtain ⟨q, T1, hq, rfl, hin, hB⟩ := hrel
    have hho := bhold_any _ _ _ _ _ _ _ hin
    by_cases hlt : q < k
    · obtain ⟨W, hW⟩ : ∃ W, W = wr.alloc (.cells #[.int .u8 q, .int .u8 1, .int .u8 2] 5) := ⟨_, rfl⟩
      have hBW : Below wr.heap.size wr W := by rw [hW]; exact (Below.refl _ _).alloc (Nat.le_refl _) _
      have hrW : Reads W (some ⟨wr.heap.size, 0, none⟩) ((mg q).map (.int .u8)) := by rw [hW]; exact reads_lit wr [(q : Int), 1, 2] (0, 0)
      have hinW := hin.below hBW
      have HB : Hid (Below w.heap.size w W) := hB.trans (below_le hBW hB.size)
      have hput := hinW.put (some ⟨wr.heap.size, 0, none⟩) 3 3 (mg q) rfl hrW (by intro x hx; simp [mg] at hx; omega) HB.out.size (by omega) (by omega) (by simp only [mgs_len, List.length_nil]; omega) (by simp only [sz_mgs, sz]; omega)
      simp only [List.nil_append] at hput
      have HIN : Hid (BasIn W p hb w.heap.size T1 bs0 ⟨60, 10000, 0, mgs q, []⟩) := hinW
      clear hinW hrW hBW hB hin
      go_wp2_with (first
        | (go_at_call 10; refine hho.mono ?_; rintro e w3 ⟨rfl, hw3⟩; obtain rfl := hw3.symm; clear hw3)
        | (go_at_call 11; rw [← hW]; refine hput.mono ?_; rintro e w3 ⟨rfl, T3, hin3, hF3⟩; have HB3 : Hid (Below w.heap.size w w3) := HB.out.trans (HIN.out.fbelow hF3 (Nat.le_refl _) HB.out.size); have hnx := next_send p hb _ T3 bs0 _ (mg q) [] w3 hin3 (by simp [bs0]) rfl (by simp only [mgs_len]; omega) HB3.out.size; simp only [mgs_succ] at hnx; have HIN3 : Hid (BasIn w3 p hb w.heap.size T3 bs0 ⟨60, 10000, 0, mgs q, [mg q]⟩) := hin3; clear hin3 hF3 hput hho)
        | (go_at_call 12; refine hnx.mono ?_; rintro e w4 ⟨v, T4, rfl, -, hin4, hF4⟩; have hB4 := HB3.out.trans (HIN3.out.fbelow hF4 (Nat.le_refl _) HB3.out.size)))
      go_roundw
      case rel => exact ⟨q + 1, T4, by omega, by go_num, hin4, hB4⟩
      case measure => simp [intOf]; omega
    · obtain rfl : q = k := by omega
      obtain ⟨W, hW⟩ : ∃ W, W = wr.alloc (.cells #[.int .u8 99, .int .u8 1, .int .u8 2] 5) := ⟨_, rfl⟩
      have hBW : Below wr.heap.size wr W := by rw [hW]; exact (Below.refl _ _).alloc (Nat.le_refl _) _
      have hrW : Reads W (some ⟨wr.heap.size, 0, none⟩) (([99, 1, 2] : List Int).map (.int .u8)) := by rw [hW]; exact reads_lit wr [99, 1, 2] (0, 0)
      have hinW := hin.below hBW
      have HB : Hid (Below w.heap.size w W) := hB.trans (below_le hBW hB.size)
      have hput := hinW.put (some ⟨wr.heap.size, 0, none⟩) 3 3 [99, 1, 2] rfl hrW (by intro x hx; simp at hx; omega) HB.out.size (by omega) (by omega) (by simp only [mgs_len, List.length_nil]; omega) (by simp only [sz_mgs, sz]; omega)
      simp only [List.nil_append] at hput
      have HIN : Hid (BasIn W p hb w.heap.size T1 bs0 ⟨60, 10000, 0, mgs q, []⟩) := hinW
      obtain ⟨r, hr⟩ : ∃ r : Nat, ((j : Int) + 127) % 128 = r := ⟨(j + 127) % 128, by omega⟩
      have HR : Hid (((j : Int) + 127) % 128 = r) := hr
      clear hinW hrW hBW hB hin hr
      go_upto_region 12 with (first
        | (go_at_call 10; refine hho.mono ?_; rintro e w3 ⟨rfl, hw3⟩; obtain rfl := hw3.symm; clear hw3)
        | (go_at_call 11; rw [← hW]; refine hput.mono ?_; rintro e w3 ⟨rfl, T3, hin3, hF3⟩; have HB3 : Hid (Below w.heap.size w w3) := HB.out.trans (HIN.out.fbelow hF3 (Nat.le_refl _) HB.out.size); have HIN3 : Hid (BasIn w3 p hb w.heap.size T3 bs0 ⟨60, 10000, 0, mgs q, [[99, 1, 2]]⟩) := hin3; clear hin3 hF3 hput hho))
      rw [HJ.out]
      have hkn : Hs.knows ⟨60, 10000, 0, mgs q, [[99, 1, 2]]⟩ r = true := by
        unfold Hs.knows
        rw [decide_eq_true_iff]
        simp only [mgs_len]
        have := HR.out
        omega
      have hup : Hs.upTo ⟨60, 10000, 0, mgs q, [[99, 1, 2]]⟩ r = j := by
        unfold Hs.upTo
        have := HR.out
        simp only
        omega
      have hfr : Hs.free ⟨60, 10000, 0, mgs q, [[99, 1, 2]]⟩ r = ⟨60, 10000, j, (mgs q).drop j, [[99, 1, 2]]⟩ := by
        unfold Hs.free
        rw [hup]
        have := HR.out
        simp only [Hs.mk.injEq, true_and, and_true]
        omega
      have hans := answer_ok p hb w.heap.size T3 bs0 _ r 0 0 0 false true false (.slice none 0 0) (q - j) j w3 HIN3.out (by omega) hkn (by rw [hfr]; simp [mgs_len]) (by rw [hup])
      rw [hfr] at hans
      have ht : bs0.ans (q - j) j false = bsK 0 := by
        unfold Bs.ans bs0 bsK Bs.to
        simp only [Bool.false_eq_true, if_false, if_true, bs0, Bs.mk.injEq, and_true, true_and]
        rw [if_neg (by omega)]
      rw [ht] at hans
      clear hkn hup hfr ht
      go_wp2_with fail
      try rw [HR.out]
      refine hans.mono ?_
      rintro e w4 ⟨rfl, T4, hin4, hF4⟩
      have hB4 : Below w.heap.size w w4 := HB3.out.trans (HIN3.out.fbelow hF4 (Nat.le_refl _) HB3.out.size)
      have hre := resends_any _ _ _ _ _ _ _ hin4
      simp only [bsK, bs0] at hre
      have hin5 : BasIn w4 p hb w.heap.size T4 (bsK (if j = q then -1 else ((j - j : Nat) : Int))) ⟨60, 10000, j, (mgs q).drop j, [[99, 1, 2]]⟩ := by
        rw [if_neg (by omega), Nat.sub_self]
        exact hin4
      clear hin4 hF4 hans
      go_wp2_with (go_at_call 17; refine hre.mono ?_; rintro e w5 ⟨rfl, hw5⟩; obtain rfl := hw5.symm; clear hw5)
      clear hre
      go_loopw [11] (fun i wr => ∃ m : Nat, j ≤ m ∧ m ≤ q ∧ i = .int .i64 m ∧ BasIn wr p hb w.heap.size T4 (bsK (if m = q then -1 else ((m - j : Nat) : Int))) ⟨60, 10000, j, (mgs q).drop j, [[99, 1, 2]]⟩ ∧ Below w.heap.size w wr) (fun i _ => q - (intOf i).toNat)
      case atStart => exact ⟨j, Nat.le_refl _, by omega, rfl, hin5, hB4⟩
      case round =>
        clear hin5 hB4
        obtain ⟨m, hjm, hmq, rfl, hin, hB⟩ := hrel
        by_cases hlt : m < q
        · rw [if_neg (by omega)] at hin
          have hlen : m - j < ((mgs q).drop j).length := by simp only [List.length_drop, mgs_len]; omega
          have hnx := next_again p hb w.heap.size T4 (bsK ((m - j : Nat) : Int)) _ (m - j) wr hin rfl hlen hB.size
          have e1 : (((j : Nat) : Int) + ((m - j : Nat) : Int)) % 128 = m := by omega
          have e2 : (bsK ((m - j : Nat) : Int)).to ((mgs q).drop j).length (((m - j : Nat) : Int) + 1) = bsK (if m + 1 = q then -1 else ((m + 1 - j : Nat) : Int)) := by
            unfold bsK Bs.to
            simp only [bs0, Bs.mk.injEq, and_true, true_and, List.length_drop, mgs_len]
            split <;> split <;> omega
          rw [e2] at hnx
          simp only [mgs_drop, e1, show j + (m - j) = m by omega] at hnx
          have HIN : Hid (BasIn wr p hb w.heap.size T4 (bsK ((m - j : Nat) : Int)) ⟨60, 10000, j, (mgs q).drop j, [[99, 1, 2]]⟩) := hin
          have HB : Hid (Below w.heap.size w wr) := hB
          clear hin hB e1 e2 hlen
          go_wp2_with fail
          refine hnx.mono ?_
          rintro e w5 ⟨v, rfl, hm5, hin5, hF5⟩
          obtain ⟨g5, c5, rfl, hc5⟩ := hm5.three m 1 2 rfl
          obtain ⟨W5, hst5, hB5, hh5⟩ := kept_unit w5 127 m true false 2 (some ⟨g5, 0, none⟩) 3 c5
          obtain ⟨y0, y1, y2, y3, y4, y7⟩ := uC_cells hh5
          have hcW := (hB5.cell (World.block_lt_of_cell? _ _ hc5)).trans hc5
          have HB5 : Hid (Below w.heap.size w W5) := (HB.out.trans (HIN.out.fbelow hF5 (Nat.le_refl _) HB.out.size)).trans (below_le hB5 (Nat.le_trans HB.out.size hF5.size))
          have HIN5 : Hid (BasIn W5 p hb w.heap.size T4 (bsK (if m + 1 = q then -1 else ((m + 1 - j : Nat) : Int))) ⟨60, 10000, j, (mgs q).drop j, [[99, 1, 2]]⟩) := hin5.below hB5
          clear hm5 hin5 hF5 hnx hB5 hh5 hc5
          simp only [bsK, bs0]
          go_wp2
          go_roundw
          case rel => exact ⟨m + 1, by omega, by omega, by go_num, HIN5.out, HB5.out⟩
          case measure => simp [intOf]; omega
        · obtain rfl : m = q := by omega
          rw [if_pos rfl] at hin
          have hnx := next_send p hb w.heap.size T4 (bsK (-1)) _ [99, 1, 2] [] wr hin (by simp [bsK]) rfl (by simp only [List.length_drop, mgs_len]; omega) hB.size
          have e1 : (((j : Nat) : Int) + (((mgs m).drop j).length : Nat)) % 128 = m := by simp only [List.length_drop, mgs_len]; omega
          simp only [e1] at hnx
          have HIN : Hid (BasIn wr p hb w.heap.size T4 (bsK (-1)) ⟨60, 10000, j, (mgs m).drop j, [[99, 1, 2]]⟩) := hin
          have HB : Hid (Below w.heap.size w wr) := hB
          clear hin hB e1
          go_wp2_with fail
          refine hnx.mono ?_
          rintro e w5 ⟨v, T5, rfl, hm5, hin5, hF5⟩
          obtain ⟨g5, c5, rfl, hc5⟩ := hm5.three 99 1 2 rfl
          obtain ⟨W5, hst5, hB5, hh5⟩ := kept_unit w5 127 m true false 2 (some ⟨g5, 0, none⟩) 3 c5
          obtain ⟨y0, y1, y2, y3, y4, y7⟩ := uC_cells hh5
          have hcW := (hB5.cell (World.block_lt_of_cell? _ _ hc5)).trans hc5
          have HB5 : Hid (Below w.heap.size w W5) := (HB.out.trans (HIN.out.fbelow hF5 (Nat.le_refl _) HB.out.size)).trans (below_le hB5 (Nat.le_trans HB.out.size hF5.size))
          have hre := resends_any _ _ _ _ _ _ _ (hin5.below hB5)
          simp only at hre
          clear hm5 hin5 hF5 hnx hB5 hh5 hc5
          simp only [bsK, bs0]
          go_wp2_with (go_at_call 17; refine hre.mono ?_; rintro e w6 ⟨rfl, hw6⟩; obtain rfl := hw6.symm; clear hw6)
          go_ret
          exact ⟨rfl, HB5.out⟩
end Go.Proofs.Ytdngcfojodahdaa.Tape
