/- BasicAsks' walk. -/
import Derived.Test.YtdngcfojodahdaaBasic7
import Derived.Test.YtdngcfojodahdaaBasic5
namespace Go.Proofs.Ytdngcfojodahdaa.Tape
open Go.ChangeShapes Go.WideShapes Go.ChangeAt Go.RowKit
set_option linter.unusedVariables false

/-- So many were taken. -/
def bsA (j : Nat) : Bs := { bs0 with last := ((j : Int) + 127) % 128 }
/-- .. and one is asked for again. -/
def bsB (j : Nat) : Bs := { bs0 with last := ((j : Int) + 127) % 128, bib := false, ask := true }

/-- A text in memory that is never written. -/
theorem text3 (w : World) (a b c : Int) : ∃ W, W = w.alloc (.cells #[.int .u8 a, .int .u8 b, .int .u8 c] 5 (3, 4)) ∧ Below w.heap.size w W ∧ Reads W (some ⟨w.heap.size, 0, none⟩) (([a, b, c] : List Int).map (.int .u8)) ∧ w.heap.size < W.heap.size ∧ (convert 28 28 (.slice (some ⟨w.heap.size, 0, none⟩) 3 3)).run Try.prog (w.alloc (.cells #[.int .u8 a, .int .u8 b, .int .u8 c] 5)) = .ok (.slice (some ⟨w.heap.size, 0, none⟩) 3 3) (w.alloc (.cells #[.int .u8 a, .int .u8 b, .int .u8 c] 5 (3, 4))) := by
  have kc := Lib.run_convert_bytes_const (P := Try.prog) w 28 5 (([a, b, c] : List Int).map (Value.int .u8)).toArray 3 3 Try.underlying28 Try.underlying5
  simp only [List.map_cons, List.map_nil, List.size_toArray, List.length_cons, List.length_nil] at kc
  exact ⟨_, rfl, (Below.refl _ _).alloc (Nat.le_refl _) _, reads_lit w [a, b, c] (3, 4), by simp, kc⟩

/-- A unit's BIB. -/
theorem field_bib (b f : Int) (bib fib : Bool) (k : Int) (x : Value) (w : World) : (Instr.field 37 (.agg #[.int .u8 b, .int .u8 f, .bool bib, .bool fib, .int .u8 k, .int .u8 0, .bool false, x]) 2).run Try.prog w = .ok (.bool bib) w := by
  show _ = _
  kernel_rfl

set_option maxRecDepth 100000 in
set_option maxHeartbeats 2000000 in
theorem asks_walk (x y : Int) (w : World) (h0 : 0 ≤ x) (h1 : x ≤ 255) (h2 : 0 ≤ y) (h3 : y ≤ 255) : Calls Try.prog 6 #[.int .u8 x, .int .u8 y] w fun e w' => e = .returned (.bool true) ∧ Below w.heap.size w w' := by
  obtain ⟨n, hn⟩ : ∃ n : Nat, x % 50 = n := ⟨(x % 50).toNat, by omega⟩
  obtain ⟨m, hm⟩ : ∃ m : Nat, y % 20 = m := ⟨(y % 20).toNat, by omega⟩
  have hn50 : n < 50 := by omega
  have hm20 : m < 20 := by omega
  go_enter Try.func6, Try.ntmps6
  go_wp2_with fail
  refine (awake11_any _).mono ?_
  rintro e w1 ⟨rfl, hB1⟩
  go_wp2_with fail
  refine (bnew_any 5 1000 w.heap.size w1 (by omega) (by omega) hB1.size).mono ?_
  rintro e w2 ⟨p, hb, T, rfl, hin2, -, hB2⟩
  have hin0 : BasIn w2 p hb w.heap.size T (bsA 0) ⟨5, 1000, 0, [], []⟩ := hin2
  have hB0 : Below w.heap.size w w2 := hB1.trans (below_le hB2 hB1.size)
  clear hin2 hB1 hB2
  go_wp2_with fail
  try rw [hn]
  clear hn h0 h1
  go_loopw [7] (fun i wr => ∃ j : Nat, j ≤ n ∧ i = .int .i64 j ∧ BasIn wr p hb w.heap.size T (bsA j) ⟨5, 1000, 0, [], []⟩ ∧ Below w.heap.size w wr) (fun i _ => n - (intOf i).toNat)
  case atStart => exact ⟨0, by omega, rfl, hin0, hB0⟩
  case round =>
    clear hin0 hB0
    obtain ⟨j, hj, rfl, hin, hB⟩ := hrel
    by_cases hlt : j < n
    · obtain ⟨W, hW, hBW, hrW, hsW, kc⟩ := text3 wr 97 98 99
      have hinW := hin.below hBW
      have htk := take_in p hb w.heap.size T (bsA j) _ 0 j 0 false true false wr.heap.size 0 3 3 [97, 98, 99] W hinW rfl (by simp only [bsA]; omega) rfl (by omega) hrW (fun g hg e => by have := (hin.at_.lt g hg).2; omega) hsW
      have HB : Hid (Below w.heap.size w W) := hB.trans (below_le hBW hB.size)
      have HIN : Hid (BasIn W p hb w.heap.size T (bsA j) ⟨5, 1000, 0, [], []⟩) := hinW
      clear hrW hinW hin hB hBW
      go_wp2_with (go_at_call 14; rw [← hW]; refine htk.mono ?_; rintro e w3 ⟨v, rfl, -, hin3, hF3⟩)
      have HB3 : Hid (Below w.heap.size w w3) := HB.out.trans (HIN.out.fbelow hF3 (Nat.le_refl _) HB.out.size)
      have hin4 : BasIn w3 p hb w.heap.size T (bsA (j + 1)) ⟨5, 1000, 0, [], []⟩ := by
        have e : bsA (j + 1) = { bsA j with i0 := false, i1 := (bsA j).i0, last := (j : Int), ask := false } := by
          unfold bsA bs0
          simp only [Bs.mk.injEq, and_true, true_and]
          omega
        rw [e]
        exact hin3
      clear hin3 hF3 htk
      go_roundw
      case rel => exact ⟨j + 1, by omega, by go_num, hin4, HB3.out⟩
      case measure => simp [intOf]; omega
    · obtain rfl : j = n := by omega
      go_wp2_with fail
      go_loopw [8] (fun i wr => ∃ q : Nat, q ≤ m + 1 ∧ i = .int .i64 q ∧ BasIn wr p hb w.heap.size T (if q = 0 then bsA j else bsB j) ⟨5, 1000, 0, [], []⟩ ∧ Below w.heap.size w wr) (fun i _ => m + 1 - (intOf i).toNat)
      case atStart => exact ⟨0, by omega, rfl, hin, hB⟩
      case round =>
        clear hin hB
        obtain ⟨q, hq, rfl, hin, hB⟩ := hrel
        by_cases hlt : q ≤ m
        · obtain ⟨W, hW, hBW, hrW, hsW, kc⟩ := text3 wr 120 121 122
          have hinW := hin.below hBW
          have HB : Hid (Below w.heap.size w W) := hB.trans (below_le hBW hB.size)
          have hne : ∀ t : Bs, t.last = ((j : Int) + 127) % 128 → ¬ ((j : Int) + 1 + q) = t.last ∧ ¬ ((2 : Int) = 2 ∧ ((j : Int) + 1 + q) = (t.last + 1) % 128) := fun t ht => by rw [ht]; omega
          have htk : Calls Try.prog 14 #[.pointer (some ⟨p, 0, none⟩), .agg #[.int .u8 0, .int .u8 ((j : Int) + 1 + q), .bool false, .bool true, .int .u8 2, .int .u8 0, .bool false, .slice (some ⟨wr.heap.size, 0, none⟩) 3 3]] W fun e w' => e = .returned (.tuple #[.slice none 0 0, .bool false, .int .i64 0]) ∧ BasIn w' p hb w.heap.size T (bsB j) ⟨5, 1000, 0, [], []⟩ ∧ Foot (fun g => g = p ∨ T g) (fun g => g = p ∨ T g) W w' := by
            by_cases hq0 : q = 0
            · rw [if_pos hq0] at hinW
              obtain ⟨e1, e2⟩ := hne (bsA j) rfl
              exact take_ask p hb w.heap.size T (bsA j) _ 0 _ 2 0 false true false _ W hinW rfl e1 e2
            · rw [if_neg hq0] at hinW
              exact take_stale p hb w.heap.size T (bsB j) _ 0 _ 2 0 false true false _ 0 false false W hinW rfl rfl rfl rfl
          have HIN : Hid (BasIn W p hb w.heap.size T (if q = 0 then bsA j else bsB j) ⟨5, 1000, 0, [], []⟩) := hinW
          have HM : Hid (y % 20 = m) := hm
          clear hrW hinW hin hB hBW hne
          go_wp2_with (first
            | (go_at_call 14; rw [← hW]; refine htk.mono ?_; rintro e w3 ⟨rfl, hin3, hF3⟩; have HB3 : Hid (Below w.heap.size w w3) := HB.out.trans (HIN.out.fbelow hF3 (Nat.le_refl _) HB.out.size); have hfi := fill_any _ _ _ _ _ _ _ hin3; simp only [uC, bsB, bs0] at hfi; have HIN3 : Hid (BasIn w3 p hb w.heap.size T (bsB j) ⟨5, 1000, 0, [], []⟩) := hin3; clear hin3 hF3)
            | (go_at_call 18; refine hfi.mono ?_; rintro e w4 ⟨rfl, hB4⟩; have hfd := field_bib (((j : Int) + 127) % 128) (Hs.last ⟨5, 1000, 0, [], []⟩) false true 0 (.slice none 0 0) w4; have hin4 := HIN3.out.below hB4; have hB5 := HB3.out.trans (below_le hB4 HB3.out.size)))
          go_roundw
          case rel =>
            refine ⟨q + 1, by omega, by go_num, ?_, hB5⟩
            rw [if_neg (by omega)]
            exact hin4
          case measure => simp [intOf]; omega
        · obtain rfl : q = m + 1 := by omega
          rw [if_neg (by omega)] at hin
          obtain ⟨W, hW, hBW, hrW, hsW, kc⟩ := text3 wr 110 101 119
          have hinW := hin.below hBW
          have HB : Hid (Below w.heap.size w W) := hB.trans (below_le hBW hB.size)
          have htk := take_in p hb w.heap.size T (bsB j) _ 0 j 0 false false false wr.heap.size 0 3 3 [110, 101, 119] W hinW rfl (by simp only [bsB]; omega) rfl (by omega) hrW (fun g hg e => by have := (hin.at_.lt g hg).2; omega) hsW
          have HIN : Hid (BasIn W p hb w.heap.size T (bsB j) ⟨5, 1000, 0, [], []⟩) := hinW
          have hs : str [110, 101, 119] = ⟨#[110, 101, 119]⟩ := rfl
          have hd : decide (((m + 1 : Nat) : Int) ≤ m) = false := decide_eq_false (by omega)
          clear hrW hinW hin hB hBW hlt hq
          go_wp2_with (first
            | (go_at_call 14; rw [← hW]; refine htk.mono ?_; rintro e w3 ⟨v, rfl, hown3, hin3, hF3⟩; obtain ⟨g3, c3, rfl⟩ := owns_some hown3 (by omega); have HB3 : Hid (Below w.heap.size w w3) := HB.out.trans (HIN.out.fbelow hF3 (Nat.le_refl _) HB.out.size); have hfi := fill_any _ _ _ _ _ _ _ hin3; have hta := taken_any _ _ _ _ _ _ _ hin3; simp only [uC, bsB, bs0] at hfi hta; have hcv := conv_reads (cap := c3) (n := 3) (xs := [110, 101, 119]) rfl (Reads.of_owns hown3); rw [hs] at hcv; clear hin3 hF3 hown3)
            | (go_at_call 19; refine hta.mono ?_; rintro e w4 ⟨rfl, hw4⟩; obtain rfl := hw4.symm; clear hw4)
            | (go_at_call 18; refine hfi.mono ?_; rintro e w4 ⟨rfl, hB4⟩; have hfd := field_bib j (Hs.last ⟨5, 1000, 0, [], []⟩) false true 0 (.slice none 0 0) w4; have hB5 := HB3.out.trans (below_le hB4 HB3.out.size)))
          go_ret
          exact ⟨rfl, hB5⟩
end Go.Proofs.Ytdngcfojodahdaa.Tape
