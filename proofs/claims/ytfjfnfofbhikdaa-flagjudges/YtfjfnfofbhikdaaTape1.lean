/- The contracts of tape's readers: Ones, Run, Low, Same. -/
import Derived.Test.YtfjfnfofbhikdaaRows
import Derived.Test.YtfjfnfofbhikdaaBits
import Derived.Deep.QuietTactic
import Derived.BigQuiet
namespace Go.Proofs.Ytfjfnfofbhikdaa.Tape
open Go.ChangeShapes Go.WideShapes Go.ChangeAt Go.RowKit

theorem ret_int {k : IntKind} {a b : Int} (h : a = b) : Ending.returned (.int k a) = .returned (.int k b) := by rw [h]

theorem drop_cons {α : Type} (l : List α) (k : Nat) (h : k < l.length) : l.drop k = l[k] :: l.drop (k + 1) := List.drop_eq_getElem_cons h

set_option maxHeartbeats 400000 in
theorem low_any (ao : Option Addr) (cap : Nat) (bs : List Bool) (w : World) (hl : bs.length ≤ 1000000) (h : Reads w ao (bs.map .bool)) :
    Calls Try.prog 46 #[.slice ao bs.length cap] w fun e w' => e = .returned (.int .u8 (low bs (min 8 bs.length))) ∧ w' = w := by
  obtain ⟨M, hM⟩ : ∃ M : Nat, M = min 8 bs.length := ⟨_, rfl⟩
  rw [← hM]
  have HM : Hid (M = min 8 bs.length) := hM
  have m1 : M ≤ 8 := by omega
  have m2 : M ≤ bs.length := by omega
  rcases Nat.lt_or_ge bs.length 8 with h8 | h8
  all_goals
    first | have m3 : bs.length ≤ M := by omega
          | have m3 : 8 ≤ M := by omega
    clear hM
    go_enter Try.func46, Try.ntmps46
    go_wp2
    go_loop [3, 8] (fun n i => ∃ k : Nat, k ≤ M ∧ i = .int .i64 k ∧ n = .int .u8 (low bs k)) (fun _ i => M - (intOf i).toNat)
    case atStart => exact ⟨0, by omega, rfl, rfl⟩
    case round =>
      obtain ⟨k, hk, rfl, rfl⟩ := hrel
      by_cases hlt : k < M
      · have hkl : k < bs.length := by omega
        obtain ⟨g, off, rfl, hc⟩ := h.bool k hkl
        have hb : Hid (bs[k] = bs[k]) := rfl
        obtain ⟨b, hb⟩ : ∃ b, bs[k] = b := ⟨_, rfl⟩
        rw [hb] at hc
        have HB : Hid (bs[k] = b) := hb
        clear hb
        have hn := low_nonneg bs k
        cases b
        · go_wp2
          go_round
          case rel => exact ⟨k + 1, by omega, by go_num, by rw [low_false bs k hkl HB.out]⟩
          case measure => simp [intOf]; omega
        · go_wp2
          go_round
          case rel => exact ⟨k + 1, by omega, by go_num, by rw [low_true bs k hkl HB.out, or_num k _ (by omega) hn.1 hn.2]⟩
          case measure => simp [intOf]; omega
      · obtain rfl : k = M := by omega
        go_wp2
        go_ret
        exact ⟨rfl, rfl⟩

theorem take_step {cs bs : List Bool} {k : Nat} (ha : k < cs.length) (hb : k < bs.length) (h : cs.take k = bs.take k) (e : cs[k] = bs[k]) : cs.take (k + 1) = bs.take (k + 1) := by
  rw [List.take_succ_eq_append_getElem ha, List.take_succ_eq_append_getElem hb, h, e]

end Go.Proofs.Ytfjfnfofbhikdaa.Tape
