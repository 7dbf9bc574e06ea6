/- The contracts of tape's readers: Ones, Run, Low, Same. -/
import Derived.Test.YtpneddlfejjdeaaRows
import Derived.Test.YtpneddlfejjdeaaBits
import Derived.Deep.QuietTactic
import Derived.BigQuiet
namespace Go.Proofs.Ytpneddlfejjdeaa.Tape
open Go.ChangeShapes Go.WideShapes Go.ChangeAt Go.RowKit

theorem ret_int {k : IntKind} {a b : Int} (h : a = b) : Ending.returned (.int k a) = .returned (.int k b) := by rw [h]

theorem drop_cons {α : Type} (l : List α) (k : Nat) (h : k < l.length) : l.drop k = l[k] :: l.drop (k + 1) := List.drop_eq_getElem_cons h

set_option maxHeartbeats 400000 in
theorem ones_any (ao : Option Addr) (cap : Nat) (bs : List Bool) (w : World) (hl : bs.length ≤ 1000000) (h : Reads w ao (bs.map .bool)) :
    Calls Try.prog 28 #[.slice ao bs.length cap] w fun e w' => e = .returned (.int .i64 (bs.count true)) ∧ w' = w := by
  go_enter Try.func28, Try.ntmps28
  go_wp2
  go_loop [3, 8] (fun n i => ∃ k m : Nat, k ≤ bs.length ∧ m ≤ k ∧ i = .int .i64 k ∧ n = .int .i64 m ∧ m + (bs.drop k).count true = bs.count true) (fun _ i => bs.length - (intOf i).toNat)
  case atStart => exact ⟨0, 0, by omega, by omega, rfl, rfl, by simp⟩
  case round =>
    obtain ⟨k, m, hk, hm, rfl, rfl, hs⟩ := hrel
    have HS : Hid (m + (bs.drop k).count true = bs.count true) := hs
    clear hs
    by_cases hlt : k < bs.length
    · obtain ⟨g, off, rfl, hc⟩ := h.bool k hlt
      have hd : Hid (bs.drop k = bs[k] :: bs.drop (k + 1)) := drop_cons bs k hlt
      generalize bs[k] = b at hc hd
      cases b
      all_goals
        go_wp2
        go_round
        case rel => first | exact ⟨k + 1, m, by omega, by omega, by go_num, rfl, by have := HS.out; rw [hd.out] at this; simpa using this⟩ | exact ⟨k + 1, m + 1, by omega, by omega, by go_num, by go_num, by have := HS.out; rw [hd.out] at this; simp at this; omega⟩
        case measure => simp [intOf]; omega
    · go_wp2
      go_ret
      exact ⟨ret_int (by have := HS.out; rw [List.drop_eq_nil_of_le (by omega)] at this; simp at this; omega), rfl⟩

set_option maxHeartbeats 400000 in
theorem run_any (ao : Option Addr) (cap : Nat) (bs : List Bool) (w : World) (hl : bs.length ≤ 1000000) (h : Reads w ao (bs.map .bool)) :
    Calls Try.prog 29 #[.slice ao bs.length cap] w fun e w' => e = .returned (.int .i64 (longest bs)) ∧ w' = w := by
  go_enter Try.func29, Try.ntmps29
  go_wp2
  go_loop [3, 4, 9] (fun n r i => ∃ k lo m : Nat, k ≤ bs.length ∧ m ≤ lo ∧ lo ≤ k ∧ i = .int .i64 k ∧ n = .int .i64 lo ∧ r = .int .i64 m ∧ scan (bs.drop k) lo m = longest bs) (fun _ _ i => bs.length - (intOf i).toNat)
  case atStart => exact ⟨0, 0, 0, by omega, by omega, by omega, rfl, rfl, rfl, by rw [scan_eq _ _ _ (by omega)]; have := onesFrom_le bs; simp; omega⟩
  case round =>
    obtain ⟨k, lo, m, hk, hm, hlo, rfl, rfl, rfl, hs⟩ := hrel
    have HS : Hid (scan (bs.drop k) lo m = longest bs) := hs
    clear hs
    by_cases hlt : k < bs.length
    · obtain ⟨g, off, rfl, hc⟩ := h.bool k hlt
      have hd : Hid (bs.drop k = bs[k] :: bs.drop (k + 1)) := drop_cons bs k hlt
      generalize bs[k] = b at hc hd
      cases b
      · have e1 := HS.out
        rw [hd.out, scan] at e1
        have HE : Hid _ := e1
        clear e1
        go_wp2
        go_round
        case rel => exact ⟨k + 1, lo, 0, by omega, by omega, by omega, by go_num, rfl, rfl, HE.out⟩
        case measure => simp [intOf]; omega
      · have e1 := HS.out
        rw [hd.out, scan] at e1
        have HE : Hid _ := e1
        clear e1
        go_wp2
        go_round
        case rel => exact ⟨k + 1, max lo (m + 1), m + 1, by omega, by omega, by omega, by go_num, by congr 1; split <;> omega, by go_num, HE.out⟩
        case measure => simp [intOf]; omega
    · go_wp2
      go_ret
      exact ⟨ret_int (by have := HS.out; rw [List.drop_eq_nil_of_le (by omega), scan] at this; omega), rfl⟩

set_option maxHeartbeats 400000 in
theorem low_any (ao : Option Addr) (cap : Nat) (bs : List Bool) (w : World) (hl : bs.length ≤ 1000000) (h : Reads w ao (bs.map .bool)) :
    Calls Try.prog 32 #[.slice ao bs.length cap] w fun e w' => e = .returned (.int .u8 (low bs (min 8 bs.length))) ∧ w' = w := by
  obtain ⟨M, hM⟩ : ∃ M : Nat, M = min 8 bs.length := ⟨_, rfl⟩
  rw [← hM]
  have HM : Hid (M = min 8 bs.length) := hM
  have m1 : M ≤ 8 := by omega
  have m2 : M ≤ bs.length := by omega
  rcases Nat.lt_or_ge bs.length 8 with h8 | h8
  all_goals
    first | have m3 : bs.length ≤ M := by omega
          | have m3 : 8 ≤ M := by omega
    clear hM
    go_enter Try.func32, Try.ntmps32
    go_wp2
    go_loop [3, 8] (fun n i => ∃ k : Nat, k ≤ M ∧ i = .int .i64 k ∧ n = .int .u8 (low bs k)) (fun _ i => M - (intOf i).toNat)
    case atStart => exact ⟨0, by omega, rfl, rfl⟩
    case round =>
      obtain ⟨k, hk, rfl, rfl⟩ := hrel
      by_cases hlt : k < M
      · have hkl : k < bs.length := by omega
        obtain ⟨g, off, rfl, hc⟩ := h.bool k hkl
        have hb : Hid (bs[k] = bs[k]) := rfl
        obtain ⟨b, hb⟩ : ∃ b, bs[k] = b := ⟨_, rfl⟩
        rw [hb] at hc
        have HB : Hid (bs[k] = b) := hb
        clear hb
        have hn := low_nonneg bs k
        cases b
        · go_wp2
          go_round
          case rel => exact ⟨k + 1, by omega, by go_num, by rw [low_false bs k hkl HB.out]⟩
          case measure => simp [intOf]; omega
        · go_wp2
          go_round
          case rel => exact ⟨k + 1, by omega, by go_num, by rw [low_true bs k hkl HB.out, or_num k _ (by omega) hn.1 hn.2]⟩
          case measure => simp [intOf]; omega
      · obtain rfl : k = M := by omega
        go_wp2
        go_ret
        exact ⟨rfl, rfl⟩

theorem take_step {cs bs : List Bool} {k : Nat} (ha : k < cs.length) (hb : k < bs.length) (h : cs.take k = bs.take k) (e : cs[k] = bs[k]) : cs.take (k + 1) = bs.take (k + 1) := by
  rw [List.take_succ_eq_append_getElem ha, List.take_succ_eq_append_getElem hb, h, e]

set_option maxHeartbeats 400000 in
theorem equal_any (ao bo : Option Addr) (ca cb : Nat) (cs bs : List Bool) (w : World) (hl : cs.length ≤ 1000000) (hl' : bs.length ≤ 1000000) (ha : Reads w ao (cs.map .bool)) (hb : Reads w bo (bs.map .bool)) :
    Calls Try.prog 37 #[.slice ao cs.length ca, .slice bo bs.length cb] w fun e w' => e = .returned (.bool (decide (cs = bs))) ∧ ∃ q, w' = w.drewN q := by
  by_cases hlen : cs.length = bs.length
  · have hne : ((cs.length : Int) != (bs.length : Int)) = false := by rw [bne_eq_false_iff_eq]; omega
    have HL : Hid (cs.length = bs.length) := hlen
    have hl1 : cs.length ≤ bs.length := by omega
    have hl2 : bs.length ≤ cs.length := by omega
    clear hlen
    go_enter Try.func37, Try.ntmps37
    go_wp2
    go_loopw [13] (fun i wr => ∃ k q : Nat, k ≤ cs.length ∧ i = .int .i64 k ∧ wr = w.drewN q ∧ cs.take k = bs.take k) (fun i _ => cs.length - (intOf i).toNat)
    case atStart => exact ⟨0, 0, by omega, rfl, rfl, rfl⟩
    case round =>
      obtain ⟨k, q, hk, rfl, rfl, ht⟩ := hrel
      have HT : Hid (cs.take k = bs.take k) := ht
      clear ht
      by_cases hlt : k < cs.length
      · have hlt' : k < bs.length := by omega
        obtain ⟨g, off, rfl, hca⟩ := ha.bool k hlt
        obtain ⟨g', off', rfl, hcb⟩ := hb.bool k hlt'
        obtain ⟨x, hx⟩ : ∃ b, cs[k] = b := ⟨_, rfl⟩
        obtain ⟨y, hy⟩ : ∃ b, bs[k] = b := ⟨_, rfl⟩
        rw [hx] at hca
        rw [hy] at hcb
        have HX : Hid (cs[k] = x) := hx
        have HY : Hid (bs[k] = y) := hy
        clear hx hy
        by_cases hxy : x = y
        · subst hxy
          go_wp2
          go_quiet (fail)
          go_wp2
          go_roundw
          case rel => exact ⟨k + 1, q + nq, by omega, by go_num, by simp, take_step hlt hlt' HT.out (HX.out.trans HY.out.symm)⟩
          case measure => simp [intOf]; omega
        · have hxb : (x == y) = false := by rw [beq_eq_false_iff_ne]; exact hxy
          have HE : Hid (cs ≠ bs) := fun e => by subst e; exact hxy (HX.out.symm.trans HY.out)
          go_wp2
          go_quiet (fail)
          go_wp2
          go_ret
          exact ⟨by rw [decide_eq_false HE.out] <;> rfl, q + nq, by simp [World.drewN_drewN]⟩
      · go_wp2
        go_ret
        have := HT.out
        rw [List.take_of_length_le (by omega), List.take_of_length_le (by omega)] at this
        exact ⟨by rw [decide_eq_true this] <;> rfl, q, rfl⟩
  · have hne : ((cs.length : Int) != (bs.length : Int)) = true := by rw [bne_iff_ne]; omega
    have HE : Hid (cs ≠ bs) := fun e => hlen (by rw [e])
    clear hlen
    go_enter Try.func37, Try.ntmps37
    go_wp2
    go_ret
    exact ⟨by rw [decide_eq_false HE.out] <;> rfl, 0, rfl⟩

set_option maxHeartbeats 400000 in
theorem same_any (ao bo : Option Addr) (ca cb : Nat) (cs bs : List Bool) (w : World) (hl : cs.length ≤ 1000000) (hl' : bs.length ≤ 1000000) (ha : Reads w ao (cs.map .bool)) (hb : Reads w bo (bs.map .bool)) :
    Calls Try.prog 31 #[.slice ao cs.length ca, .slice bo bs.length cb] w fun e w' => e = .returned (.bool (decide (cs = bs))) ∧ ∃ q, w' = w.drewN q := by
  go_enter Try.func31, Try.ntmps31
  go_wp2_with (go_at_call 37; refine (equal_any _ _ _ _ _ _ _ hl hl' ha hb).mono ?_; rintro e w' ⟨rfl, q, rfl⟩)
  go_ret
  exact ⟨rfl, q, rfl⟩
end Go.Proofs.Ytpneddlfejjdeaa.Tape
