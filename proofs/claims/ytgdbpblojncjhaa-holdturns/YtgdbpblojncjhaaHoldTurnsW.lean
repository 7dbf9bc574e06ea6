/- HoldTurns' walk. -/
import Derived.Test.YtgdbpblojncjhaaHold8
namespace Go.Proofs.Ytgdbpblojncjhaa.Tape
open Go.ChangeShapes Go.WideShapes Go.ChangeAt Go.RowKit
set_option linter.unusedVariables false

/-- A Hold in which r messages of three octets wait, the first one's number Q, round 128. -/
def Turn (w0 : World) (C b : Nat) (w : World) (Q r : Nat) : Prop := ∃ T ms, HoldAt w b C T ⟨200, 1048576, Q % 128, ms, []⟩ ∧ ms.length = r ∧ sz ms = 3 * r ∧ Below C w0 w

/-- .. and one that was put. -/
def Turn1 (w0 : World) (C b : Nat) (w : World) (Q r : Nat) (x : List Int) : Prop := ∃ T ms, HoldAt w b C T ⟨200, 1048576, Q % 128, ms, [x]⟩ ∧ ms.length = r ∧ sz ms = 3 * r ∧ Below C w0 w

theorem Turn.below {w0 w w' : World} {C b Q r : Nat} (h : Turn w0 C b w Q r) (hC : C ≤ w0.heap.size) (hb : Below w.heap.size w w') : Turn w0 C b w' Q r := by
  obtain ⟨T, mn, hat, h1, h2, hB⟩ := h
  exact ⟨T, mn, hat.below hb, h1, h2, hB.trans (below_le hb (by have := hB.size; omega))⟩

theorem turn_put {w0 w : World} {C b Q r : Nat} (h : Turn w0 C b w Q r) (hb : C ≤ b) (hC : C ≤ w0.heap.size) (ao : Option Addr) (cap : Nat) (xs : List Int) (hn : xs.length = 3) (hr : Reads w ao (xs.map (.int .u8))) (hx : ∀ x ∈ xs, 0 ≤ x ∧ x ≤ 255) (hq : r < 127) :
    Calls Try.prog 10 #[.pointer (some ⟨b, 0, none⟩), .slice ao 3 cap] w fun e w' => e = .returned (.int .i64 0) ∧ Turn1 w0 C b w' Q r xs := by
  obtain ⟨T, ms, hat, h1, h2, hB⟩ := h
  have hsz := hB.size
  refine (put_ok b C T _ ao 3 cap xs w hat hn hr hx (by omega) (by omega) (by omega) (by simp only [List.length_nil]; omega) (by simp only [sz]; omega)).mono ?_
  rintro e w' ⟨rfl, T', hat', hF⟩
  exact ⟨rfl, T', _, hat', h1, h2, hF.low hat hb (Nat.le_refl _) hB (by omega)⟩

theorem turn_send {w0 w : World} {C b Q r : Nat} {x : List Int} (h : Turn1 w0 C b w Q r x) (hb : C ≤ b) (hC : C ≤ w0.heap.size) (hq : r < 127) (hx : x.length = 3) :
    Calls Try.prog 12 #[.pointer (some ⟨b, 0, none⟩)] w fun e w' => ∃ g cap, e = .returned (.tuple #[.int .u8 (((Q + r : Nat) : Int) % 128), .slice (some ⟨g, 0, none⟩) 3 cap, .int .i64 0]) ∧ Reads w' (some ⟨g, 0, none⟩) (x.map (.int .u8)) ∧ Turn w0 C b w' Q (r + 1) := by
  obtain ⟨T, ms, hat, h1, h2, hB⟩ := h
  have hsz := hB.size
  refine (send_ok b C T _ x [] w hat rfl (by simp only [h1]; omega) (by omega)).mono ?_
  rintro e w' ⟨v, T', rfl, hown, hat', hF⟩
  rw [hx] at hown
  obtain ⟨g, cap, rfl⟩ := owns_some hown (by omega)
  refine ⟨g, cap, ?_, Reads.of_owns hown, T', _, hat', by simp [h1], by simp only [sz_append, sz, h2, hx]; omega, hF.low hat hb (Nat.le_refl _) hB (by omega)⟩
  simp only [h1]
  rw [show (((Q % 128 : Nat) : Int) + (r : Nat)) % 128 = ((Q + r : Nat) : Int) % 128 by omega]

theorem turn_free {w0 w : World} {C b Q r : Nat} (h : Turn w0 C b w Q r) (hb : C ≤ b) (hC : C ≤ w0.heap.size) (h0 : 0 < r) (hq : r ≤ 127) (a : Int) (ha : a = ((Q + r - 1 : Nat) : Int) % 128) :
    Calls Try.prog 16 #[.pointer (some ⟨b, 0, none⟩), .int .u8 a] w fun e w' => e = .returned (.tuple #[.int .i64 (r : Nat), .int .i64 0]) ∧ Turn w0 C b w' (Q + r) 0 := by
  obtain ⟨T, ms, hat, h1, h2, hB⟩ := h
  have hsz := hB.size
  have hkn : Hs.knows ⟨200, 1048576, Q % 128, ms, []⟩ a = true := by
    unfold Hs.knows
    rw [decide_eq_true_iff]
    simp only [h1]
    omega
  have hup : Hs.upTo ⟨200, 1048576, Q % 128, ms, []⟩ a = r := by unfold Hs.upTo; simp only; omega
  refine (free_ok b C T _ a w hat (by omega) hkn).mono ?_
  rintro e w' ⟨rfl, T', hat', hF⟩
  unfold Hs.free at hat'
  rw [hup] at hat' ⊢
  rw [show ((a + 1) % 128).toNat = (Q + r) % 128 by omega] at hat'
  have e : ms.drop r = [] := List.drop_eq_nil_of_le (by omega)
  simp only [e] at hat'
  exact ⟨rfl, T', [], hat', rfl, rfl, hF.low hat hb (Nat.le_refl _) hB (by omega)⟩

theorem turn_sent {w0 w : World} {C b Q r : Nat} (h : Turn w0 C b w Q r) : Calls Try.prog 21 #[.pointer (some ⟨b, 0, none⟩)] w fun e w' => e = .returned (.int .i64 (r : Nat)) ∧ w' = w := by
  obtain ⟨T, ms, hat, h1, h2, hB⟩ := h
  have := sent_any b C T _ w hat
  simp only [h1] at this
  exact this

set_option maxRecDepth 100000 in
set_option maxHeartbeats 1000000 in
theorem turns_walk (n wt : Int) (w : World) (h0 : 0 ≤ n) (h1 : n ≤ 65535) (h2 : 0 ≤ wt) (h3 : wt ≤ 255) : Calls Try.prog 4 #[.int .u16 n, .int .u8 wt] w fun e w' => e = .returned (.bool true) ∧ Below w.heap.size w w' := by
  obtain ⟨k, hk⟩ : ∃ k : Nat, 1 + wt % 127 = k := ⟨(1 + wt % 127).toNat, by omega⟩
  have hk1 : 1 ≤ k := by omega
  have hk2 : k ≤ 127 := by omega
  obtain ⟨N, hN⟩ : ∃ N : Nat, n % 600 = N := ⟨(n % 600).toNat, by omega⟩
  have hN2 : N < 600 := by omega
  go_enter Try.func4, Try.ntmps4
  go_wp2_with fail
  refine (awake10_any w).mono ?_
  rintro e w1 ⟨rfl, hB1⟩
  have hs1 := hB1.size
  go_wp2_with fail
  refine (new_any 200 1048576 w.heap.size w1 (by omega) (by omega)).mono ?_
  rintro e w2 ⟨rfl, ⟨T2, hat2, -⟩, hB2⟩
  obtain ⟨b, hb⟩ : ∃ b, b = w1.heap.size := ⟨_, rfl⟩
  rw [← hb] at hat2 ⊢
  have hbC : w.heap.size ≤ b := by omega
  have hturn : Turn w w.heap.size b w2 0 0 := ⟨T2, [], hat2, rfl, rfl, hB1.trans (below_le hB2 hs1)⟩
  clear hat2 hB2 hB1 hs1 hb
  go_wp2_with fail
  try rw [hk]
  clear hk h2 h3
  go_loopw [7] (fun i wr => ∃ (Q r : Nat), Q + r ≤ N ∧ r < k ∧ k ∣ Q ∧ i = .int .i64 ((Q + r : Nat) : Int) ∧ Turn w w.heap.size b wr Q r) (fun i _ => N - (intOf i).toNat)
  case atStart => exact ⟨0, 0, by omega, by omega, ⟨0, rfl⟩, rfl, hturn⟩
  case round =>
    clear hturn
    obtain ⟨Q, r, hQN, hrk, hdv, rfl, hturn⟩ := hrel
    have HDV : Hid (k ∣ Q) := hdv
    obtain ⟨I, hI⟩ : ∃ I, Q + r = I := ⟨_, rfl⟩
    rw [hI] at hQN ⊢
    clear hdv
    by_cases hlt : I < N
    · have hf2 : Turn w w.heap.size b (wr.alloc (.cells #[.int .u8 ((I : Int) % 256), .int .u8 ((I : Int) / 256), .int .u8 0] 5)) Q r := hturn.below (Nat.le_refl _) ((Below.refl _ _).alloc (Nat.le_refl _) _)
      have hr2 : Reads (wr.alloc (.cells #[.int .u8 ((I : Int) % 256), .int .u8 ((I : Int) / 256), .int .u8 0] 5)) (some ⟨wr.heap.size, 0, none⟩) (([(I : Int) % 256, (I : Int) / 256, 0] : List Int).map (.int .u8)) := reads_lit wr [(I : Int) % 256, (I : Int) / 256, 0] (0, 0)
      have hput := turn_put hf2 hbC (Nat.le_refl _) _ 3 [(I : Int) % 256, (I : Int) / 256, 0] rfl hr2 (by intro y hy; simp at hy; omega) (by omega)
      have HI : Hid (Q + r = I) := hI
      clear hf2 hr2 hturn hI
      go_wp2_with fail
      refine hput.mono ?_
      rintro e w3 ⟨rfl, hf3⟩
      clear hput
      have hsend := turn_send hf3 hbC (Nat.le_refl _) (by omega) rfl
      rw [HI.out] at hsend
      clear hf3
      go_wp2_with fail
      refine hsend.mono ?_
      rintro e w4 ⟨g4, c4, rfl, hr4, hf4⟩
      obtain ⟨g4', off4, e4, hc4⟩ := hr4 0 (.int .u8 ((I : Int) % 256)) rfl
      simp only [Option.some.injEq, Addr.mk.injEq, and_true] at e4
      obtain ⟨rfl, rfl⟩ := e4
      rw [Nat.add_zero] at hc4
      have hse := turn_sent hf4
      clear hsend hr4
      by_cases hrk1 : r + 1 = k
      · have hfree := turn_free hf4 hbC (Nat.le_refl _) (by omega) (by omega) ((I : Int) % 128) (by have := HI.out; rw [show Q + (r + 1) - 1 = I by omega])
        rw [hrk1] at hse hfree
        clear hf4
        go_wp2_with (first | (go_at_call 21; refine hse.mono ?_; rintro e w5 ⟨rfl, hw5⟩; obtain rfl := hw5.symm; clear hw5) | (go_at_call 16; refine hfree.mono ?_; rintro e w6 ⟨rfl, hf6⟩))
        go_roundw
        case rel => exact ⟨Q + k, 0, by have := HI.out; omega, by omega, Nat.dvd_add HDV.out (Nat.dvd_refl _), by have := HI.out; rw [show Q + k + 0 = I + 1 by omega]; go_num, hf6⟩
        case measure => simp [intOf]; omega
      · have hne : ¬ ((r + 1 : Nat) : Int) = (k : Nat) := by omega
        go_wp2_with (go_at_call 21; refine hse.mono ?_; rintro e w5 ⟨rfl, hw5⟩; obtain rfl := hw5.symm; clear hw5)
        go_roundw
        case rel => exact ⟨Q, r + 1, by have := HI.out; omega, by omega, HDV.out, by have := HI.out; rw [show Q + (r + 1) = I + 1 by omega]; go_num, hf4⟩
        case measure => simp [intOf]; omega
    · obtain rfl : I = N := by omega
      have hmod : (I : Int) % (k : Int) = (r : Int) := by
        have h : I % k = r := by
          obtain ⟨d, rfl⟩ := HDV.out
          rw [← hI, Nat.mul_add_mod, Nat.mod_eq_of_lt hrk]
        omega
      have hse := fun q => turn_sent (w := wr.drewN q) (w0 := w) (C := w.heap.size) (b := b) (Q := Q) (r := r) (hturn.below (Nat.le_refl _) (below_drewN (Below.refl _ _) q))
      obtain ⟨T9, ms9, -, -, -, hB9⟩ := hturn
      have hk0 : ¬ (k : Int) = 0 := by omega
      clear hlt
      go_wp2_with fail
      go_quiet ((go_at_call 21; exact Calls.quiet_of_same (hse _)))
      go_wp2
      go_ret
      exact ⟨rfl, below_drewN hB9 _⟩
end Go.Proofs.Ytgdbpblojncjhaa.Tape
