/- The contracts of the reference's Put and Take. -/
import Derived.Test.YtfjfnfofbhikdaaStuff2
namespace Go.Proofs.Ytfjfnfofbhikdaa.Tape
open Go.ChangeShapes Go.WideShapes Go.ChangeAt Go.RowKit

set_option maxRecDepth 100000 in
set_option maxHeartbeats 1000000 in
theorem rput_any (ao : Option Addr) (n cap : Nat) (bs : List Bool) (w : World) (hn : bs.length = n) (hl : n ≤ 100000) (h : Reads w ao (bs.map .bool)) :
    Calls Try.prog 18 #[.slice ao n cap] w fun e w' => ∃ v, e = .returned v ∧ w'.ownsRow w.heap.size 4 1 v (put bs).length ((put bs).map .bool) ∧ Below w.heap.size w w' := by
  obtain ⟨i0, hi, hz0, hz1, hz2⟩ := info_parts info4
  have HN : Hid (bs.length = n) := hn
  clear hn
  go_enter Try.func18, Try.ntmps18
  go_wp2
  go_loopw [3, 4, 5] (fun v r i wr => ∃ (k ru : Nat) (cs : List Bool), k ≤ n ∧ ru < 5 ∧ cs.length ≤ 2 * k ∧ i = .int .i64 k ∧ r = .int .i64 ru ∧ wr.ownsRow w.heap.size 4 1 v cs.length (cs.map .bool) ∧ Below w.heap.size w wr ∧ cs ++ putFrom (bs.drop k) ru = put bs) (fun _ _ i _ => n - (intOf i).toNat)
  case atStart => exact ⟨0, 0, [], by omega, by omega, by simp, rfl, rfl, World.ownsRow_nil _ _ _ _, Below.refl _ _, rfl⟩
  case round =>
    obtain ⟨k, ru, cs, hk, hr, hcs, rfl, rfl, hown, hbl, hs⟩ := hrel
    have HS : Hid (cs ++ putFrom (bs.drop k) ru = put bs) := hs
    clear hs
    have hsz := hbl.size
    obtain ⟨m, hm⟩ : ∃ m, cs.length = m := ⟨_, rfl⟩
    have HM : Hid (cs.length = m) := hm
    rw [hm] at hown hcs
    clear hm
    by_cases hlt : k < n
    · have hkb : k < bs.length := by have := HN.out; omega
      obtain ⟨g, off, rfl, hc0⟩ := h.bool k hkb
      have hgb : g < w.heap.size := World.block_lt_of_cell? w ⟨g, off + k, none⟩ hc0
      have hc := (hbl.cell (p := ⟨g, off + k, none⟩) hgb).trans hc0
      have hd : Hid (bs.drop k = bs[k] :: bs.drop (k + 1)) := drop_cons bs k hkb
      generalize bs[k] = b at hc hc0 hd
      cases b
      · go_wp2_with (at_builtin; refine wpList_append_own _ rfl _ _ 26 rfl w.heap.size 4 i0 (.bool false) 1 1 Try.underlying26 hi hz0 hz1 hz2 rfl (by decide) _ _ _ rfl (hown.alloc _) ⟨wr.heap.size, 0, none⟩ 1 1 [.bool false] rfl rfl (cell_one_new _ _ _) (by simp [Value.oneCell']) (by unfold maxLen; simp; omega) (by simp; omega) (by simp; omega) ?_; intro v' w2 hown' hgrow _; have hbl2 := (hbl.alloc hsz (.cells #[.bool false] 4)).grown (show (wr.alloc (.cells #[.bool false] 4)).grownBy w2 u3.ownBlock from hgrow) (by simp; omega) (fun k hk => (hown.lt k hk).1); have hsz2 := hbl2.size; have hc2 := (hbl2.cell (p := ⟨g, off + k, none⟩) hgb).trans hc0)
        go_roundw
        case rel => exact ⟨k + 1, 0, cs ++ [false], by omega, by omega, by simp [HM.out]; omega, by go_num, rfl, by simpa [HM.out] using hown', hbl2, by have := HS.out; rw [hd.out, putFrom] at this; exact put_snoc this⟩
        case measure => simp [intOf]; omega
      · by_cases h4 : ru = 4
        · subst h4
          go_wp2_with (first | (at_builtin; refine wpList_append_own _ rfl _ _ 26 rfl w.heap.size 4 i0 (.bool false) 1 1 Try.underlying26 hi hz0 hz1 hz2 rfl (by decide) _ _ _ rfl (hown.alloc _) ⟨wr.heap.size, 0, none⟩ 1 1 [.bool true] rfl rfl (cell_one_new _ _ _) (by simp [Value.oneCell']) (by unfold maxLen; simp; omega) (by simp; omega) (by simp; omega) ?_; intro v' w2 hown' hgrow _; have hbl2 := (hbl.alloc hsz (.cells #[.bool true] 4)).grown (show (wr.alloc (.cells #[.bool true] 4)).grownBy w2 u3.ownBlock from hgrow) (by simp; omega) (fun k hk => (hown.lt k hk).1); have hsz2 := hbl2.size; have hc2 := (hbl2.cell (p := ⟨g, off + k, none⟩) hgb).trans hc0) | (at_builtin; refine wpList_append_own _ rfl _ _ 26 rfl w.heap.size 4 i0 (.bool false) 1 1 Try.underlying26 hi hz0 hz1 hz2 rfl (by decide) _ _ _ rfl (hown'.alloc _) ⟨w2.heap.size, 0, none⟩ 1 1 [.bool false] rfl rfl (cell_one_new _ _ _) (by simp [Value.oneCell']) (by unfold maxLen; simp; omega) (by simp; omega) (by simp; omega) ?_; intro v2 w3 hown2 hgrow2 _; have hbl3 := (hbl2.alloc hsz2 (.cells #[.bool false] 4)).grown (show (w2.alloc (.cells #[.bool false] 4)).grownBy w3 v'.ownBlock from hgrow2) (by simp; omega) (fun k hk => (hown'.lt k hk).1)))
          go_roundw
          case rel => exact ⟨k + 1, 0, cs ++ [true] ++ [false], by omega, by omega, by simp [HM.out]; omega, by go_num, rfl, by simpa [HM.out] using hown2, hbl3, by have := HS.out; rw [hd.out, putFrom, if_pos rfl] at this; exact put_snoc (put_snoc this)⟩
          case measure => simp [intOf]; omega
        · have b1 : ((ru : Int) + 1 == 5) = false := by rw [beq_eq_false_iff_ne]; omega
          go_wp2_with (at_builtin; refine wpList_append_own _ rfl _ _ 26 rfl w.heap.size 4 i0 (.bool false) 1 1 Try.underlying26 hi hz0 hz1 hz2 rfl (by decide) _ _ _ rfl (hown.alloc _) ⟨wr.heap.size, 0, none⟩ 1 1 [.bool true] rfl rfl (cell_one_new _ _ _) (by simp [Value.oneCell']) (by unfold maxLen; simp; omega) (by simp; omega) (by simp; omega) ?_; intro v' w2 hown' hgrow _; have hbl2 := (hbl.alloc hsz (.cells #[.bool true] 4)).grown (show (wr.alloc (.cells #[.bool true] 4)).grownBy w2 u3.ownBlock from hgrow) (by simp; omega) (fun k hk => (hown.lt k hk).1); have hsz2 := hbl2.size; have hc2 := (hbl2.cell (p := ⟨g, off + k, none⟩) hgb).trans hc0)
          go_roundw
          case rel => exact ⟨k + 1, ru + 1, cs ++ [true], by omega, by omega, by simp [HM.out]; omega, by go_num, by go_num, by simpa [HM.out] using hown', hbl2, by have := HS.out; rw [hd.out, putFrom, if_neg h4] at this; exact put_snoc this⟩
          case measure => simp [intOf]; omega
    · have HE : Hid (cs = put bs) := by
        show cs = put bs
        have := HS.out
        rw [List.drop_eq_nil_of_le (by have := HN.out; omega), putFrom, List.append_nil] at this
        exact this
      go_wp2
      go_ret
      refine ⟨_, rfl, ?_, hbl⟩
      rw [← HE.out, HM.out]
      exact hown
set_option maxRecDepth 100000 in
set_option maxHeartbeats 1000000 in
theorem rtake_any (ao : Option Addr) (n cap : Nat) (bs : List Bool) (P : List Bool × Nat) (w : World) (hn : bs.length = n) (hP : tk bs 0 [] = P) (hl : n ≤ 1000000) (h : Reads w ao (bs.map .bool)) :
    Calls Try.prog 37 #[.slice ao n cap] w fun e w' => ∃ v, e = .returned (.tuple #[v, .int .i64 P.2]) ∧ w'.ownsRow w.heap.size 4 1 v P.1.length (P.1.map .bool) ∧ Below w.heap.size w w' := by
  obtain ⟨i0, hi, hz0, hz1, hz2⟩ := info_parts info4
  have HN : Hid (bs.length = n) := hn
  have HP : Hid (tk bs 0 [] = P) := hP
  clear hn hP
  go_enter Try.func37, Try.ntmps37
  go_wp2
  go_loopw [4, 5, 6] (fun v r i wr => ∃ (k ru : Nat) (cs : List Bool), k ≤ n ∧ ru ≤ 5 ∧ cs.length ≤ k ∧ i = .int .i64 k ∧ r = .int .i64 ru ∧ wr.ownsRow w.heap.size 4 1 v cs.length (cs.map .bool) ∧ Below w.heap.size w wr ∧ tk (bs.drop k) ru cs = P) (fun _ _ i _ => n - (intOf i).toNat)
  case atStart => exact ⟨0, 0, [], by omega, by omega, by simp, rfl, rfl, World.ownsRow_nil _ _ _ _, Below.refl _ _, HP.out⟩
  case round =>
    obtain ⟨k, ru, cs, hk, hr, hcs, rfl, rfl, hown, hbl, hs⟩ := hrel
    have HS : Hid (tk (bs.drop k) ru cs = P) := hs
    clear hs
    have hsz := hbl.size
    obtain ⟨m, hm⟩ : ∃ m, cs.length = m := ⟨_, rfl⟩
    have HM : Hid (cs.length = m) := hm
    rw [hm] at hown hcs
    clear hm
    by_cases hlt : k < n
    · have hkb : k < bs.length := by have := HN.out; omega
      obtain ⟨g, off, rfl, hc0⟩ := h.bool k hkb
      have hgb : g < w.heap.size := World.block_lt_of_cell? w ⟨g, off + k, none⟩ hc0
      have hc := (hbl.cell (p := ⟨g, off + k, none⟩) hgb).trans hc0
      have hd : Hid (bs.drop k = bs[k] :: bs.drop (k + 1)) := drop_cons bs k hkb
      generalize bs[k] = b at hc hc0 hd
      by_cases h5 : ru = 5
      · subst h5
        cases b
        · go_wp2
          go_roundw
          case rel => exact ⟨k + 1, 0, cs, by omega, by omega, by rw [HM.out]; omega, by go_num, rfl, by rw [HM.out]; exact hown, hbl, tk_skip HS.out hd.out rfl⟩
          case measure => simp [intOf]; omega
        · have HE : Hid (P = ([], 4)) := tk_out HS.out hd.out rfl
          go_wp2
          go_ret2
          rw [HE.out]
          exact ⟨_, rfl, World.ownsRow_nil _ _ _ _, hbl⟩
      · have hr4 : ru < 5 := by omega
        have b1 : ((ru : Int) == 5) = false := by rw [beq_eq_false_iff_ne]; omega
        cases b
        · go_wp2_with (at_builtin; refine wpList_append_own _ rfl _ _ 26 rfl w.heap.size 4 i0 (.bool false) 1 1 Try.underlying26 hi hz0 hz1 hz2 rfl (by decide) _ _ _ rfl (hown.alloc _) ⟨wr.heap.size, 0, none⟩ 1 1 [.bool false] rfl rfl (cell_one_new _ _ _) (by simp [Value.oneCell']) (by unfold maxLen; simp; omega) (by simp; omega) (by simp; omega) ?_; intro v' w2 hown' hgrow _; have hbl2 := (hbl.alloc hsz (.cells #[.bool false] 4)).grown (show (wr.alloc (.cells #[.bool false] 4)).grownBy w2 u4.ownBlock from hgrow) (by simp; omega) (fun k hk => (hown.lt k hk).1); have hsz2 := hbl2.size; have hc2 := (hbl2.cell (p := ⟨g, off + k, none⟩) hgb).trans hc0)
          go_roundw
          case rel => exact ⟨k + 1, 0, cs ++ [false], by omega, by omega, by simp [HM.out]; omega, by go_num, rfl, by simpa [HM.out] using hown', hbl2, tk_on HS.out hd.out h5⟩
          case measure => simp [intOf]; omega
        · go_wp2_with (at_builtin; refine wpList_append_own _ rfl _ _ 26 rfl w.heap.size 4 i0 (.bool false) 1 1 Try.underlying26 hi hz0 hz1 hz2 rfl (by decide) _ _ _ rfl (hown.alloc _) ⟨wr.heap.size, 0, none⟩ 1 1 [.bool true] rfl rfl (cell_one_new _ _ _) (by simp [Value.oneCell']) (by unfold maxLen; simp; omega) (by simp; omega) (by simp; omega) ?_; intro v' w2 hown' hgrow _; have hbl2 := (hbl.alloc hsz (.cells #[.bool true] 4)).grown (show (wr.alloc (.cells #[.bool true] 4)).grownBy w2 u4.ownBlock from hgrow) (by simp; omega) (fun k hk => (hown.lt k hk).1); have hsz2 := hbl2.size; have hc2 := (hbl2.cell (p := ⟨g, off + k, none⟩) hgb).trans hc0)
          go_roundw
          case rel => exact ⟨k + 1, ru + 1, cs ++ [true], by omega, by omega, by simp [HM.out]; omega, by go_num, by go_num, by simpa [HM.out] using hown', hbl2, tk_on HS.out hd.out h5⟩
          case measure => simp [intOf]; omega
    · have HE : Hid (P = if ru = 5 then ([], 5) else (cs, 0)) := tk_end HS.out (by have := HN.out; omega)
      by_cases h5 : ru = 5
      · subst h5
        go_wp2
        go_ret2
        rw [HE.out]
        exact ⟨_, rfl, World.ownsRow_nil _ _ _ _, hbl⟩
      · have b1 : ((ru : Int) == 5) = false := by rw [beq_eq_false_iff_ne]; omega
        have HE2 : Hid (P = (cs, 0)) := by show P = (cs, 0); rw [HE.out, if_neg h5]
        go_wp2
        go_ret2
        rw [HE2.out]
        exact ⟨_, rfl, by simpa [HM.out] using hown, hbl⟩
end Go.Proofs.Ytfjfnfofbhikdaa.Tape
