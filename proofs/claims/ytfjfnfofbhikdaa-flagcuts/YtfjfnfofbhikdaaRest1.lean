/- The contracts of rest's Step, Bits, Right. -/
import Derived.Test.YtfjfnfofbhikdaaCrc
namespace Go.Proofs.Ytfjfnfofbhikdaa.Tape
open Go.ChangeShapes Go.WideShapes Go.ChangeAt Go.RowKit

/-- The register as Go has it. -/
def num (x : BitVec 16) : Int := (x.toNat : Int)
theorem num_range (x : BitVec 16) : 0 ≤ num x ∧ num x < 65536 := by have := x.isLt; unfold num; omega
theorem num_inj {x y : BitVec 16} (h : num x = num y) : x = y := by unfold num at h; exact BitVec.eq_of_toNat_eq (by omega)

theorem num_low (x : BitVec 16) : (num x % 2 == 1) = x.getLsbD 0 := by
  rw [BitVec.getLsbD, Nat.testBit_eq_decide_div_mod_eq, num, Bool.eq_iff_iff]
  simp
  omega

theorem num_stp (x : BitVec 16) (on : Bool) : num (stp x on) = if (num x % 2 == 1) = on then num x / 2 else Go.bits BinOp.xor IntKind.u16 (num x / 2) 33800 := by
  have hr := num_range x
  rw [num_low, u16_xor (num x / 2) 33800 (by omega) (by omega) (by decide) (by decide)]
  have h2 : (num x / 2).toNat = x.toNat / 2 := by unfold num; omega
  rw [h2, num, stp]
  cases hl : x.getLsbD 0 <;> cases on <;> simp [BitVec.toNat_ushiftRight, Nat.shiftRight_eq_div_pow, num]


theorem num_good (xs : List Int) (n : Nat) (h2 : 2 ≤ n) : (num (crc 0xffff#16 (bits xs)) == 61624) = decide (2 ≤ n ∧ left xs = good) := by
  rw [Bool.eq_iff_iff, beq_iff_eq, decide_eq_true_iff]
  constructor
  · exact fun h => ⟨h2, num_inj (y := good) h⟩
  · rintro ⟨_, h⟩
    have : crc 0xffff#16 (bits xs) = good := h
    rw [this]; rfl

set_option maxHeartbeats 400000 in
theorem step_any (x : BitVec 16) (on : Bool) (w : World) :
    Calls Try.prog 50 #[.int .u16 (num x), .bool on] w fun e w' => e = .returned (.int .u16 (num (stp x on))) ∧ w' = w := by
  have hr := num_range x
  have hs := num_stp x on
  obtain ⟨a, ha⟩ : ∃ a : Int, a = num x := ⟨_, rfl⟩
  obtain ⟨R, hR⟩ : ∃ R : Int, R = num (stp x on) := ⟨_, rfl⟩
  rw [← ha] at hr hs ⊢
  rw [← hR] at hs ⊢
  obtain ⟨h0, h1⟩ := hr
  have HS : Hid (R = if (a % 2 == 1) = on then a / 2 else Go.bits BinOp.xor IntKind.u16 (a / 2) 33800) := hs
  clear hs ha hR
  have e1 : Go.bits BinOp.and IntKind.u16 a 1 = a % 2 := by
    rw [u16_and a 1 h0 h1 (by decide) (by decide), show (1 : Int).toNat = 1 from rfl, Nat.and_one_is_mod]
    omega
  go_enter Try.func50, Try.ntmps50
  go_wp2
  · have h : (!(a % 2 == 1) == on) = true := by assumption
    go_ret
    refine ⟨ret_int ?_, rfl⟩
    rw [HS.out, if_neg]
    cases hb : (a % 2 == 1) <;> cases on <;> simp [hb] at h ⊢
  · have h : (!(a % 2 == 1) == on) = false := by assumption
    go_ret
    refine ⟨ret_int ?_, rfl⟩
    rw [HS.out, if_pos]
    cases hb : (a % 2 == 1) <;> cases on <;> simp [hb] at h ⊢

set_option maxHeartbeats 400000 in
theorem crc_any (ao : Option Addr) (cap n : Nat) (bs : List Bool) (w : World) (hn : bs.length = n) (hl : n ≤ 1000000) (h : Reads w ao (bs.map .bool)) :
    Calls Try.prog 47 #[.slice ao n cap] w fun e w' => e = .returned (.int .u16 (num (crc 0xffff#16 bs))) ∧ w' = w := by
  obtain ⟨r0, hr0⟩ : ∃ r : BitVec 16, r = 0xffff#16 := ⟨_, rfl⟩
  have hN : Hid ((65535 : Int) = num r0) := by show _ = _; rw [hr0]; rfl
  have HN : Hid (bs.length = n) := hn
  rw [← hr0]
  clear hr0 hn
  go_enter Try.func47, Try.ntmps47
  go_wp2
  go_loop [3, 8] (fun r i => ∃ k : Nat, k ≤ n ∧ i = .int .i64 k ∧ r = .int .u16 (num (crc r0 (bs.take k)))) (fun _ i => n - (intOf i).toNat)
  case atStart => exact ⟨0, by omega, rfl, by rw [hN.out]; rfl⟩
  case round =>
    obtain ⟨k, hk, rfl, rfl⟩ := hrel
    by_cases hlt : k < n
    · have hkb : k < bs.length := by have := HN.out; omega
      obtain ⟨g, off, rfl, hc⟩ := h.bool k hkb
      have HT : Hid (crc r0 (bs.take (k + 1)) = stp (crc r0 (bs.take k)) bs[k]) := crc_take r0 bs k hkb
      generalize bs[k] = b at hc HT
      go_wp2_with (go_at_call 50; refine (step_any _ _ _).mono ?_; rintro e w' ⟨rfl, rfl⟩)
      go_round
      case rel => exact ⟨k + 1, by omega, by go_num, by rw [HT.out]⟩
      case measure => simp [intOf]; omega
    · have HE : Hid (bs.take k = bs) := List.take_of_length_le (by have := HN.out; omega)
      go_wp2
      go_ret
      exact ⟨ret_int (by rw [HE.out]), rfl⟩

set_option maxRecDepth 100000 in
set_option maxHeartbeats 400000 in
theorem right_any (ao : Option Addr) (cap n : Nat) (xs : List Int) (w : World) (hn : xs.length = n) (hl : n ≤ 100000) (hx : ∀ x ∈ xs, 0 ≤ x ∧ x ≤ 255) (h : Reads w ao (xs.map (.int .u8))) :
    Calls Try.prog 34 #[.slice ao n cap] w fun e w' => e = .returned (.bool (decide (2 ≤ n ∧ left xs = good))) ∧ Below w.heap.size w w' := by
  by_cases h2 : 2 ≤ n
  · have hof := of_any ao cap xs w (by omega) hx h
    rw [hn] at hof
    have h2' : decide ((n : Int) ≥ 2) = true := by simp; omega
    go_enter Try.func34, Try.ntmps34
    go_wp2_with fail
    refine hof.mono ?_
    rintro e w1 ⟨v, rfl, hown, hb1⟩
    obtain ⟨vo, ca, rfl, hca, hr, -⟩ := owns_form hown
    go_wp2_with fail
    refine (crc_any _ _ _ _ _ (by rw [bits_len, hn]) (by omega) hr).mono ?_
    rintro e w2 ⟨rfl, rfl⟩
    go_wp2
    go_ret
    exact ⟨ret_bool (num_good xs n h2), hb1⟩
  · have h2' : decide ((n : Int) ≥ 2) = false := by simp; omega
    go_enter Try.func34, Try.ntmps34
    go_wp2_with fail
    go_ret
    exact ⟨by simp [h2], Below.refl _ _⟩
end Go.Proofs.Ytfjfnfofbhikdaa.Tape
