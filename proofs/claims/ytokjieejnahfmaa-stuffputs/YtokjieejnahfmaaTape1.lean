/- The contracts of tape's readers: Ones, Run, Low, Same. -/
import Derived.Test.YtokjieejnahfmaaRows
import Derived.Test.YtokjieejnahfmaaBits
import Derived.Deep.QuietTactic
import Derived.BigQuiet
namespace Go.Proofs.Ytokjieejnahfmaa.Tape
open Go.ChangeShapes Go.WideShapes Go.ChangeAt Go.RowKit

theorem ret_int {k : IntKind} {a b : Int} (h : a = b) : Ending.returned (.int k a) = .returned (.int k b) := by rw [h]

theorem drop_cons {α : Type} (l : List α) (k : Nat) (h : k < l.length) : l.drop k = l[k] :: l.drop (k + 1) := List.drop_eq_getElem_cons h

set_option maxHeartbeats 400000 in
theorem run_any (ao : Option Addr) (cap : Nat) (bs : List Bool) (w : World) (hl : bs.length ≤ 1000000) (h : Reads w ao (bs.map .bool)) :
    Calls Try.prog 14 #[.slice ao bs.length cap] w fun e w' => e = .returned (.int .i64 (longest bs)) ∧ w' = w := by
  go_enter Try.func14, Try.ntmps14
  go_wp2
  go_loop [3, 4, 9] (fun n r i => ∃ k lo m : Nat, k ≤ bs.length ∧ m ≤ lo ∧ lo ≤ k ∧ i = .int .i64 k ∧ n = .int .i64 lo ∧ r = .int .i64 m ∧ scan (bs.drop k) lo m = longest bs) (fun _ _ i => bs.length - (intOf i).toNat)
  case atStart => exact ⟨0, 0, 0, by omega, by omega, by omega, rfl, rfl, rfl, by rw [scan_eq _ _ _ (by omega)]; have := onesFrom_le bs; simp; omega⟩
  case round =>
    obtain ⟨k, lo, m, hk, hm, hlo, rfl, rfl, rfl, hs⟩ := hrel
    have HS : Hid (scan (bs.drop k) lo m = longest bs) := hs
    clear hs
    by_cases hlt : k < bs.length
    · obtain ⟨g, off, rfl, hc⟩ := h.bool k hlt
      have hd : Hid (bs.drop k = bs[k] :: bs.drop (k + 1)) := drop_cons bs k hlt
      generalize bs[k] = b at hc hd
      cases b
      · have e1 := HS.out
        rw [hd.out, scan] at e1
        have HE : Hid _ := e1
        clear e1
        go_wp2
        go_round
        case rel => exact ⟨k + 1, lo, 0, by omega, by omega, by omega, by go_num, rfl, rfl, HE.out⟩
        case measure => simp [intOf]; omega
      · have e1 := HS.out
        rw [hd.out, scan] at e1
        have HE : Hid _ := e1
        clear e1
        go_wp2
        go_round
        case rel => exact ⟨k + 1, max lo (m + 1), m + 1, by omega, by omega, by omega, by go_num, by congr 1; split <;> omega, by go_num, HE.out⟩
        case measure => simp [intOf]; omega
    · go_wp2
      go_ret
      exact ⟨ret_int (by have := HS.out; rw [List.drop_eq_nil_of_le (by omega), scan] at this; omega), rfl⟩

theorem take_step {cs bs : List Bool} {k : Nat} (ha : k < cs.length) (hb : k < bs.length) (h : cs.take k = bs.take k) (e : cs[k] = bs[k]) : cs.take (k + 1) = bs.take (k + 1) := by
  rw [List.take_succ_eq_append_getElem ha, List.take_succ_eq_append_getElem hb, h, e]

end Go.Proofs.Ytokjieejnahfmaa.Tape
