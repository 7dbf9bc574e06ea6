/- The contracts of stuff's Size, Put and Take. -/
import Derived.Test.YtfjfnfofbhikdaaPut
import Derived.Test.YtfjfnfofbhikdaaJoin
namespace Go.Proofs.Ytfjfnfofbhikdaa.Tape
open Go.ChangeShapes Go.WideShapes Go.ChangeAt Go.RowKit

theorem longer_one (r : Int) (w : World) (h0 : 0 ≤ r) (h : r ≤ 1000000) : Calls Try.prog 43 #[.int .i64 r, .bool true] w fun e w' => e = .returned (.int .i64 (r + 1)) ∧ w' = w := by
  go_enter Try.func43, Try.ntmps43
  go_wp2
  go_ret
  exact ⟨ret_int (by go_num), rfl⟩
theorem longer_none (r : Int) (w : World) : Calls Try.prog 43 #[.int .i64 r, .bool false] w fun e w' => e = .returned (.int .i64 0) ∧ w' = w := by
  go_enter Try.func43, Try.ntmps43
  go_wp2
  go_ret
  exact ⟨rfl, rfl⟩

set_option maxRecDepth 100000 in
set_option maxHeartbeats 1000000 in
theorem size_any (ao : Option Addr) (n cap : Nat) (bs : List Bool) (w : World) (hn : bs.length = n) (hl : n ≤ 1000000) (h : Reads w ao (bs.map .bool)) :
    Calls Try.prog 42 #[.slice ao n cap] w fun e w' => e = .returned (.int .i64 (szFrom bs 0)) ∧ w' = w := by
  have HN : Hid (bs.length = n) := hn
  clear hn
  go_enter Try.func42, Try.ntmps42
  go_wp2
  go_loop [3, 4, 9] (fun m r i => ∃ k mo ru : Nat, k ≤ n ∧ mo ≤ k ∧ ru < 5 ∧ i = .int .i64 k ∧ m = .int .i64 mo ∧ r = .int .i64 ru ∧ mo + szFrom (bs.drop k) ru = szFrom bs 0) (fun _ _ i => n - (intOf i).toNat)
  case atStart => exact ⟨0, 0, 0, by omega, by omega, by omega, rfl, rfl, rfl, by simp⟩
  case round =>
    obtain ⟨k, mo, ru, hk, hm, hr, rfl, rfl, rfl, hs⟩ := hrel
    have HS : Hid (mo + szFrom (bs.drop k) ru = szFrom bs 0) := hs
    clear hs
    by_cases hlt : k < n
    · have hkb : k < bs.length := by have := HN.out; omega
      obtain ⟨g, off, rfl, hc⟩ := h.bool k hkb
      have hd : Hid (bs.drop k = bs[k] :: bs.drop (k + 1)) := drop_cons bs k hkb
      generalize bs[k] = b at hc hd
      cases b
      · go_wp2_with (go_at_call 43; refine (longer_none _ _).mono ?_; rintro e w' ⟨rfl, hw'⟩; obtain rfl := hw'.symm; clear hw')
        go_round
        case rel => exact ⟨k + 1, mo, 0, by omega, by omega, by omega, by go_num, rfl, rfl, by have := HS.out; rw [hd.out, szFrom] at this; exact this⟩
        case measure => simp [intOf]; omega
      · by_cases h4 : ru = 4
        · subst h4
          go_wp2_with (go_at_call 43; refine (longer_one _ _ (by omega) (by omega)).mono ?_; rintro e w' ⟨rfl, hw'⟩; obtain rfl := hw'.symm; clear hw')
          go_round
          case rel => exact ⟨k + 1, mo + 1, 0, by omega, by omega, by omega, by go_num, by go_num, rfl, by have := HS.out; rw [hd.out, szFrom, if_pos rfl] at this; omega⟩
          case measure => simp [intOf]; omega
        · have b1 : ((ru : Int) + 1 == 5) = false := by rw [beq_eq_false_iff_ne]; omega
          go_wp2_with (go_at_call 43; refine (longer_one _ _ (by omega) (by omega)).mono ?_; rintro e w' ⟨rfl, hw'⟩; obtain rfl := hw'.symm; clear hw')
          go_round
          case rel => exact ⟨k + 1, mo, ru + 1, by omega, by omega, by omega, by go_num, rfl, by go_num, by have := HS.out; rw [hd.out, szFrom, if_neg h4] at this; exact this⟩
          case measure => simp [intOf]; omega
    · go_wp2
      go_ret
      exact ⟨ret_int (by have := HS.out; rw [List.drop_eq_nil_of_le (by have := HN.out; omega), szFrom] at this; omega), rfl⟩

theorem put_snoc {cs P : List Bool} {l : List Bool} {b : Bool} (h : cs ++ b :: l = P) : (cs ++ [b]) ++ l = P := by simpa using h

set_option maxRecDepth 100000 in
set_option maxHeartbeats 1000000 in
theorem put_any (ao : Option Addr) (n cap : Nat) (bs : List Bool) (w : World) (hn : bs.length = n) (hl : n ≤ 100000) (h : Reads w ao (bs.map .bool)) :
    Calls Try.prog 29 #[.slice ao n cap] w fun e w' => ∃ v, e = .returned v ∧ w'.ownsRow w.heap.size 4 1 v (put bs).length ((put bs).map .bool) ∧ Below w.heap.size w w' := by
  obtain ⟨i0, hi, hz0, hz1, hz2⟩ := info_parts info4
  have HN : Hid (bs.length = n) := hn
  have hsz := sz_le bs 0 (by omega)
  have hsa := size_any ao n cap bs w hn (by omega) h
  obtain ⟨S, hS⟩ : ∃ S, S = szFrom bs 0 := ⟨_, rfl⟩
  rw [← hS] at hsz hsa
  have hS1 : S ≤ 100000 := by omega
  obtain ⟨Q, hQ⟩ : ∃ Q : Nat, (n : Int) + (S : Int) = (Q : Int) := ⟨n + S, by omega⟩
  have hQ1 : Q ≤ 200000 := by omega
  clear hn hS hsz
  go_enter Try.func29, Try.ntmps29
  go_wp2_with (first | (go_at_call 42; refine hsa.mono ?_; rintro e w' ⟨rfl, hw'⟩; obtain rfl := hw'.symm; clear hw') | (at_make; refine wpList_make_own _ rfl _ _ 27 rfl w.heap.size 4 i0 (.bool false) 1 Try.underlying27 hi hz0 hz1 _ _ _ Q rfl rfl (by omega) (by rw [hz2]; omega) (by unfold maxLen; omega) (Nat.le_refl _) ?_; intro w1 hown1 hgrow1))
  clear hsa hQ
  have hb1 : Below w.heap.size w w1 := (Below.refl w.heap.size w).grown hgrow1 (Nat.le_refl _) (by simp)
  go_loopw [3, 4, 15] (fun v r i wr => ∃ (k ru : Nat) (cs : List Bool), k ≤ n ∧ ru < 5 ∧ cs.length ≤ 2 * k ∧ i = .int .i64 k ∧ r = .int .i64 ru ∧ wr.ownsRow w.heap.size 4 1 v cs.length (cs.map .bool) ∧ Below w.heap.size w wr ∧ cs ++ putFrom (bs.drop k) ru = put bs) (fun _ _ i _ => n - (intOf i).toNat)
  case atStart => exact ⟨0, 0, [], by omega, by omega, by simp, rfl, rfl, hown1, hb1, rfl⟩
  case round =>
    clear hown1 hgrow1 hb1
    obtain ⟨k, ru, cs, hk, hr, hcs, rfl, rfl, hown, hbl, hs⟩ := hrel
    have HS : Hid (cs ++ putFrom (bs.drop k) ru = put bs) := hs
    clear hs
    have hsz := hbl.size
    obtain ⟨m, hm⟩ : ∃ m, cs.length = m := ⟨_, rfl⟩
    have HM : Hid (cs.length = m) := hm
    rw [hm] at hown hcs
    clear hm
    by_cases hlt : k < n
    · have hkb : k < bs.length := by have := HN.out; omega
      obtain ⟨g, off, rfl, hc0⟩ := h.bool k hkb
      have hc := (hbl.cell (p := ⟨g, off + k, none⟩) (World.block_lt_of_cell? w _ hc0)).trans hc0
      have hd : Hid (bs.drop k = bs[k] :: bs.drop (k + 1)) := drop_cons bs k hkb
      clear hc0
      generalize bs[k] = b at hc hd
      cases b
      · go_wp2_with (first | (go_at_call 43; refine (longer_none _ _).mono ?_; rintro e w' ⟨rfl, hw'⟩; obtain rfl := hw'.symm; clear hw') | (at_builtin; refine wpList_append_own _ rfl _ _ 27 rfl w.heap.size 4 i0 (.bool false) 1 1 Try.underlying27 hi hz0 hz1 hz2 rfl (by decide) _ _ _ rfl (hown.alloc _) ⟨wr.heap.size, 0, none⟩ 1 1 [.bool false] rfl rfl (cell_one_new _ _ _) (by simp [Value.oneCell']) (by unfold maxLen; omega) (by omega) (by simp; omega) ?_; intro v' w2 hown' hgrow _))
        have hbl2 := (hbl.alloc hsz (.cells #[.bool false] 4)).grown (show (wr.alloc (.cells #[.bool false] 4)).grownBy w2 u3.ownBlock from hgrow) (by simp; omega) (fun k hk => (hown.lt k hk).1)
        go_roundw
        case rel => exact ⟨k + 1, 0, cs ++ [false], by omega, by omega, by simp [HM.out]; omega, by go_num, rfl, by simpa [HM.out] using hown', hbl2, by have := HS.out; rw [hd.out, putFrom] at this; exact put_snoc this⟩
        case measure => simp [intOf]; omega
      · by_cases h4 : ru = 4
        · subst h4
          go_wp2_with (first | (go_at_call 43; refine (longer_one _ _ (by omega) (by omega)).mono ?_; rintro e w' ⟨rfl, hw'⟩; obtain rfl := hw'.symm; clear hw') | (at_builtin; refine wpList_append_own _ rfl _ _ 27 rfl w.heap.size 4 i0 (.bool false) 1 1 Try.underlying27 hi hz0 hz1 hz2 rfl (by decide) _ _ _ rfl (hown.alloc _) ⟨wr.heap.size, 0, none⟩ 1 1 [.bool true] rfl rfl (cell_one_new _ _ _) (by simp [Value.oneCell']) (by unfold maxLen; omega) (by omega) (by simp; omega) ?_; intro v' w2 hown' hgrow _; have hbl2 := (hbl.alloc hsz (.cells #[.bool true] 4)).grown (show (wr.alloc (.cells #[.bool true] 4)).grownBy w2 u3.ownBlock from hgrow) (by simp; omega) (fun k hk => (hown.lt k hk).1); have hsz2 := hbl2.size) | (at_builtin; refine wpList_append_own _ rfl _ _ 27 rfl w.heap.size 4 i0 (.bool false) 1 1 Try.underlying27 hi hz0 hz1 hz2 rfl (by decide) _ _ _ rfl (hown'.alloc _) ⟨w2.heap.size, 0, none⟩ 1 1 [.bool false] rfl rfl (cell_one_new _ _ _) (by simp [Value.oneCell']) (by unfold maxLen; simp; omega) (by simp; omega) (by simp; omega) ?_; intro v2 w3 hown2 hgrow2 _; have hbl3 := (hbl2.alloc hsz2 (.cells #[.bool false] 4)).grown (show (w2.alloc (.cells #[.bool false] 4)).grownBy w3 v'.ownBlock from hgrow2) (by simp; omega) (fun k hk => (hown'.lt k hk).1)))
          go_roundw
          case rel => exact ⟨k + 1, 0, cs ++ [true] ++ [false], by omega, by omega, by simp [HM.out]; omega, by go_num, rfl, by simpa [HM.out] using hown2, hbl3, by have := HS.out; rw [hd.out, putFrom, if_pos rfl] at this; exact put_snoc (put_snoc this)⟩
          case measure => simp [intOf]; omega
        · have b1 : ((ru : Int) + 1 == 5) = false := by rw [beq_eq_false_iff_ne]; omega
          go_wp2_with (first | (go_at_call 43; refine (longer_one _ _ (by omega) (by omega)).mono ?_; rintro e w' ⟨rfl, hw'⟩; obtain rfl := hw'.symm; clear hw') | (at_builtin; refine wpList_append_own _ rfl _ _ 27 rfl w.heap.size 4 i0 (.bool false) 1 1 Try.underlying27 hi hz0 hz1 hz2 rfl (by decide) _ _ _ rfl (hown.alloc _) ⟨wr.heap.size, 0, none⟩ 1 1 [.bool true] rfl rfl (cell_one_new _ _ _) (by simp [Value.oneCell']) (by unfold maxLen; omega) (by omega) (by simp; omega) ?_; intro v' w2 hown' hgrow _))
          have hbl2 := (hbl.alloc hsz (.cells #[.bool true] 4)).grown (show (wr.alloc (.cells #[.bool true] 4)).grownBy w2 u3.ownBlock from hgrow) (by simp; omega) (fun k hk => (hown.lt k hk).1)
          go_roundw
          case rel => exact ⟨k + 1, ru + 1, cs ++ [true], by omega, by omega, by simp [HM.out]; omega, by go_num, by go_num, by simpa [HM.out] using hown', hbl2, by have := HS.out; rw [hd.out, putFrom, if_neg h4] at this; exact put_snoc this⟩
          case measure => simp [intOf]; omega
    · have HE : Hid (cs = put bs) := by
        show cs = put bs
        have := HS.out
        rw [List.drop_eq_nil_of_le (by have := HN.out; omega), putFrom, List.append_nil] at this
        exact this
      go_wp2
      go_ret
      refine ⟨_, rfl, ?_, hbl⟩
      rw [← HE.out, HM.out]
      exact hown
end Go.Proofs.Ytfjfnfofbhikdaa.Tape
