/- HoldWindow's walk. -/
import Derived.Test.YtgdbpblojncjhaaHold8
namespace Go.Proofs.Ytgdbpblojncjhaa.Tape
open Go.ChangeShapes Go.WideShapes Go.ChangeAt Go.RowKit
set_option linter.unusedVariables false

/-- A Hold of which only the numbers matter: how many wait, how many were not sent. -/
def Few (w0 : World) (C b : Nat) (w : World) (f p q : Nat) : Prop := ∃ T ms mn, HoldAt w b C T ⟨300, 1048576, f, ms, mn⟩ ∧ ms.length = p ∧ mn.length = q ∧ Below C w0 w

theorem len_cons {l : List (List Int)} {q : Nat} (h : l.length = q) (hq : 0 < q) : ∃ x xs, l = x :: xs ∧ xs.length = q - 1 := by
  cases l with
  | nil => simp at h; omega
  | cons x xs => exact ⟨x, xs, rfl, by simp at h; omega⟩

/-- Send, by the numbers alone. -/
theorem few_send {w0 w : World} {C b f p q : Nat} (h : Few w0 C b w f p q) (hb : C ≤ b) (hC : C ≤ w0.heap.size) :
    Calls Try.prog 12 #[.pointer (some ⟨b, 0, none⟩)] w fun e w' => ∃ a v, e = .returned (.tuple #[a, v, .int .i64 (if q = 0 then 2 else if 127 ≤ p then 3 else 0)]) ∧ Few w0 C b w' f (if q = 0 then p else if 127 ≤ p then p else p + 1) (if q = 0 then q else if 127 ≤ p then q else q - 1) := by
  obtain ⟨T, ms, mn, hat, h1, h2, hB⟩ := h
  have hsz := hB.size
  by_cases hq : q = 0
  · refine (send_none b C T _ w hat (List.eq_nil_of_length_eq_zero (by simpa [hq] using h2))).mono ?_
    rintro e w' ⟨rfl, rfl⟩
    rw [if_pos hq, if_pos hq, if_pos hq]
    exact ⟨_, _, rfl, T, ms, mn, hat, h1, h2, hB⟩
  · rw [if_neg hq, if_neg hq, if_neg hq]
    obtain ⟨x, xs, rfl, hl⟩ := len_cons h2 (by omega)
    by_cases hp : 127 ≤ p
    · refine (send_full b C T _ w hat (by simp) (by simpa [h1] using hp)).mono ?_
      rintro e w' ⟨rfl, rfl⟩
      rw [if_pos hp, if_pos hp, if_pos hp]
      exact ⟨_, _, rfl, T, ms, _, hat, h1, h2, hB⟩
    · refine (send_ok b C T _ x xs w hat rfl (by simp only [h1]; omega) (by omega)).mono ?_
      rintro e w' ⟨v, T', rfl, -, hat', hF⟩
      rw [if_neg hp, if_neg hp, if_neg hp]
      exact ⟨_, _, rfl, T', _, xs, hat', by simp [h1], hl, hF.low hat hb (Nat.le_refl _) hB (by omega)⟩

/-- .. while messages of three octets are put. -/
def Fill (w0 : World) (C b : Nat) (w : World) (q : Nat) : Prop := ∃ T mn, HoldAt w b C T ⟨300, 1048576, 0, [], mn⟩ ∧ mn.length = q ∧ sz mn = 3 * q ∧ Below C w0 w

theorem fill_put {w0 w : World} {C b q : Nat} (h : Fill w0 C b w q) (hb : C ≤ b) (hC : C ≤ w0.heap.size) (ao : Option Addr) (cap : Nat) (xs : List Int) (hn : xs.length = 3) (hr : Reads w ao (xs.map (.int .u8))) (hx : ∀ x ∈ xs, 0 ≤ x ∧ x ≤ 255) (hq : q < 200) :
    Calls Try.prog 10 #[.pointer (some ⟨b, 0, none⟩), .slice ao 3 cap] w fun e w' => e = .returned (.int .i64 0) ∧ Fill w0 C b w' (q + 1) := by
  obtain ⟨T, mn, hat, h1, h2, hB⟩ := h
  have hsz := hB.size
  refine (put_ok b C T _ ao 3 cap xs w hat hn hr hx (by omega) (by omega) (by omega) (by simp only [List.length_nil]; omega) (by simp only [sz]; omega)).mono ?_
  rintro e w' ⟨rfl, T', hat', hF⟩
  exact ⟨rfl, T', _, hat', by simp [h1], by simp only [sz_append, sz, h2, hn]; omega, hF.low hat hb (Nat.le_refl _) hB (by omega)⟩

theorem Fill.below {w0 w w' : World} {C b q : Nat} (h : Fill w0 C b w q) (hC : C ≤ w0.heap.size) (hb : Below w.heap.size w w') : Fill w0 C b w' q := by
  obtain ⟨T, mn, hat, h1, h2, hB⟩ := h
  exact ⟨T, mn, hat.below hb, h1, h2, hB.trans (below_le hb (by have := hB.size; omega))⟩

theorem few_free {w0 w : World} {C b : Nat} (h : Few w0 C b w 0 127 73) (hb : C ≤ b) (hC : C ≤ w0.heap.size) (k : Nat) (hk : k < 127) :
    Calls Try.prog 16 #[.pointer (some ⟨b, 0, none⟩), .int .u8 k] w fun e w' => e = .returned (.tuple #[.int .i64 ((k + 1 : Nat) : Int), .int .i64 0]) ∧ Few w0 C b w' (k + 1) (126 - k) 73 := by
  obtain ⟨T, ms, mn, hat, h1, h2, hB⟩ := h
  have hsz := hB.size
  have hkn : Hs.knows ⟨300, 1048576, 0, ms, mn⟩ k = true := by
    unfold Hs.knows
    rw [decide_eq_true_iff]
    simp only [h1]
    omega
  have hup : Hs.upTo ⟨300, 1048576, 0, ms, mn⟩ k = k + 1 := by unfold Hs.upTo; simp only; omega
  refine (free_ok b C T _ k w hat (by omega) hkn).mono ?_
  rintro e w' ⟨rfl, T', hat', hF⟩
  unfold Hs.free at hat'
  rw [hup] at hat' ⊢
  rw [show (((k : Int) + 1) % 128).toNat = k + 1 by omega] at hat'
  exact ⟨rfl, T', _, mn, hat', by simp [h1], h2, hF.low hat hb (Nat.le_refl _) hB (by omega)⟩

set_option maxRecDepth 100000 in
set_option maxHeartbeats 1000000 in
theorem window_walk (x : Int) (w : World) (h0 : 0 ≤ x) (h1 : x ≤ 255) : Calls Try.prog 5 #[.int .u8 x] w fun e w' => e = .returned (.bool true) ∧ Below w.heap.size w w' := by
  go_enter Try.func5, Try.ntmps5
  go_wp2_with fail
  refine (awake10_any w).mono ?_
  rintro e w1 ⟨rfl, hB1⟩
  have hs1 := hB1.size
  go_wp2_with fail
  refine (new_any 300 1048576 w.heap.size w1 (by omega) (by omega)).mono ?_
  rintro e w2 ⟨rfl, ⟨T2, hat2, -⟩, hB2⟩
  obtain ⟨b, hb⟩ : ∃ b, b = w1.heap.size := ⟨_, rfl⟩
  rw [← hb] at hat2 ⊢
  have hbC : w.heap.size ≤ b := by omega
  have hfill : Fill w w.heap.size b w2 0 := ⟨T2, [], hat2, rfl, rfl, hB1.trans (below_le hB2 hs1)⟩
  clear hat2 hB2 hB1 hs1 hb
  go_wp2_with fail
  go_loopw [4] (fun i wr => ∃ k : Nat, k ≤ 200 ∧ i = .int .i64 k ∧ Fill w w.heap.size b wr k) (fun i _ => 200 - (intOf i).toNat)
  case atStart => exact ⟨0, by omega, rfl, hfill⟩
  case round =>
    clear hfill
    obtain ⟨k, hk, rfl, hfill⟩ := hrel
    by_cases hlt : k < 200
    · have hf2 : Fill w w.heap.size b (wr.alloc (.cells #[.int .u8 k, .int .u8 1, .int .u8 2] 5)) k := hfill.below (Nat.le_refl _) ((Below.refl _ _).alloc (Nat.le_refl _) _)
      have hr2 : Reads (wr.alloc (.cells #[.int .u8 k, .int .u8 1, .int .u8 2] 5)) (some ⟨wr.heap.size, 0, none⟩) (([(k : Int), 1, 2] : List Int).map (.int .u8)) := reads_lit wr [(k : Int), 1, 2] (0, 0)
      have hput := fill_put hf2 hbC (Nat.le_refl _) _ 3 [(k : Int), 1, 2] rfl hr2 (by intro y hy; simp at hy; omega) hlt
      clear hf2 hr2 hfill
      go_wp2_with (go_at_call 10; refine hput.mono ?_; rintro e w3 ⟨rfl, hf3⟩)
      go_roundw
      case rel => exact ⟨k + 1, by omega, by go_num, hf3⟩
      case measure => simp [intOf]; omega
    · obtain ⟨T3, mn3, hat3, hl3, -, hB3⟩ := hfill
      have hfew : Few w w.heap.size b wr 0 0 200 := ⟨T3, [], mn3, hat3, rfl, by omega, hB3⟩
      have e200 : decide ((k : Int) < 200) = false := decide_eq_false (by omega)
      clear hat3 hl3 hB3
      go_wp2_with fail
      try rw [e200]
      clear hlt hk e200
      go_loopw [5, 6] (fun n i wx => ∃ k : Nat, k ≤ 200 ∧ i = .int .i64 k ∧ n = .int .i64 ((min k 127 : Nat) : Int) ∧ Few w w.heap.size b wx 0 (min k 127) (200 - min k 127)) (fun _ i _ => 200 - (intOf i).toNat)
      case atStart => exact ⟨0, by omega, rfl, rfl, hfew⟩
      case round =>
        clear hfew
        obtain ⟨k, hk, rfl, rfl, hfew⟩ := hrel
        by_cases hlt : k < 200
        · have hsend := few_send hfew hbC (Nat.le_refl _)
          simp only [if_neg (show ¬ 200 - min k 127 = 0 by omega)] at hsend
          obtain ⟨m, hm⟩ : ∃ m, min k 127 = m := ⟨_, rfl⟩
          rw [hm] at hsend ⊢
          clear hfew
          by_cases h127 : k < 127
          · simp only [if_neg (show ¬ 127 ≤ m by omega)] at hsend
            obtain rfl : m = k := by omega
            clear hm
            go_wp2_with (go_at_call 12; refine hsend.mono ?_; rintro e w4 ⟨a4, v4, rfl, hf4⟩)
            go_roundw
            case rel => exact ⟨m + 1, by omega, by go_num, by rw [show min (m + 1) 127 = m + 1 by omega]; go_num, by rw [show min (m + 1) 127 = m + 1 by omega, show 200 - (m + 1) = 200 - m - 1 by omega]; exact hf4⟩
            case measure => simp [intOf]; omega
          · simp only [if_pos (show 127 ≤ m by omega)] at hsend
            obtain rfl : m = 127 := by omega
            clear hm
            go_wp2_with (go_at_call 12; refine hsend.mono ?_; rintro e w4 ⟨a4, v4, rfl, hf4⟩)
            go_roundw
            case rel => exact ⟨k + 1, by omega, by go_num, by rw [show min (k + 1) 127 = 127 by omega]; go_num, by rw [show min (k + 1) 127 = 127 by omega]; exact hf4⟩
            case measure => simp [intOf]; omega
        · obtain ⟨m, hm⟩ : ∃ m, min k 127 = m := ⟨_, rfl⟩
          rw [hm] at hfew ⊢
          have hm2 : m = 127 := by omega
          rw [hm2] at hfew
          have HM : Hid (m = 127) := hm2
          have e200 : decide ((k : Int) < 200) = false := decide_eq_false (by omega)
          obtain ⟨r, hr⟩ : ∃ r : Nat, x % 127 = r := ⟨(x % 127).toNat, by omega⟩
          have hr2 : r < 127 := by omega
          have hfr := few_free hfew hbC (Nat.le_refl _) r hr2
          clear hfew hm hm2
          go_wp2_with fail
          try rw [e200]
          rw [hr]
          clear hlt hk e200 hr h0 h1
          refine hfr.mono ?_
          rintro e w5 ⟨rfl, hf5⟩
          clear hfr
          go_wp2_with fail
          go_loopw [13, 14] (fun n i wx => ∃ k : Nat, k ≤ 200 ∧ i = .int .i64 k ∧ n = .int .i64 ((min k (min 73 (r + 1)) : Nat) : Int) ∧ Few w w.heap.size b wx (r + 1) (126 - r + min k (min 73 (r + 1))) (73 - min k (min 73 (r + 1)))) (fun _ i _ => 200 - (intOf i).toNat)
          case atStart => exact ⟨0, by omega, rfl, by simp, by simpa using hf5⟩
          case round =>
            clear hf5
            obtain ⟨k, hk, rfl, rfl, hfew⟩ := hrel
            obtain ⟨c, hc⟩ : ∃ c, min k (min 73 (r + 1)) = c := ⟨_, rfl⟩
            rw [hc] at hfew ⊢
            by_cases hlt : k < 200
            · have hsend := few_send hfew hbC (Nat.le_refl _)
              clear hfew
              have HC : Hid (min k (min 73 (r + 1)) = c) := hc
              clear hc
              by_cases h73 : c = 73
              · have HN : Hid (min (k + 1) (min 73 (r + 1)) = c) := by have := HC.out; show _ = _; omega
                simp only [if_pos (show 73 - c = 0 by omega)] at hsend
                clear h73
                go_wp2_with (go_at_call 12; refine hsend.mono ?_; rintro e w6 ⟨a6, v6, rfl, hf6⟩)
                go_roundw
                case rel => exact ⟨k + 1, by omega, by go_num, by rw [HN.out], by rw [HN.out]; exact hf6⟩
                case measure => simp [intOf]; omega
              · simp only [if_neg (show ¬ 73 - c = 0 by have := HC.out; omega)] at hsend
                by_cases hful : c = r + 1
                · have HN : Hid (min (k + 1) (min 73 (r + 1)) = c) := by have := HC.out; show _ = _; omega
                  simp only [if_pos (show 127 ≤ 126 - r + c by omega)] at hsend
                  clear h73 hful
                  go_wp2_with (go_at_call 12; refine hsend.mono ?_; rintro e w6 ⟨a6, v6, rfl, hf6⟩)
                  go_roundw
                  case rel => exact ⟨k + 1, by omega, by go_num, by rw [HN.out], by rw [HN.out]; exact hf6⟩
                  case measure => simp [intOf]; omega
                · have HN : Hid (min (k + 1) (min 73 (r + 1)) = c + 1) := by have := HC.out; show _ = _; omega
                  have hc73 : c < 73 := by have := HC.out; omega
                  simp only [if_neg (show ¬ 127 ≤ 126 - r + c by have := HC.out; omega)] at hsend
                  clear h73 hful
                  go_wp2_with (go_at_call 12; refine hsend.mono ?_; rintro e w6 ⟨a6, v6, rfl, hf6⟩)
                  go_roundw
                  case rel => exact ⟨k + 1, by omega, by go_num, by rw [HN.out]; go_num, by rw [HN.out, show 73 - (c + 1) = 73 - c - 1 by omega]; exact hf6⟩
                  case measure => simp [intOf]; omega
            · obtain ⟨T7, ms7, mn7, -, -, -, hB7⟩ := hfew
              obtain rfl := HM.out
              by_cases h73 : r + 1 > 73
              · obtain rfl : c = 73 := by omega
                clear hc
                go_wp2
                go_ret
                exact ⟨rfl, hB7⟩
              · obtain rfl : c = r + 1 := by omega
                clear hc
                go_wp2
                go_ret
                exact ⟨rfl, hB7⟩
end Go.Proofs.Ytgdbpblojncjhaa.Tape
