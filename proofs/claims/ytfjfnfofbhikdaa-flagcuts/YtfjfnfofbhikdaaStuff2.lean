/- The contract of stuff's Take. -/
import Derived.Test.YtfjfnfofbhikdaaStuff1
namespace Go.Proofs.Ytfjfnfofbhikdaa.Tape
open Go.ChangeShapes Go.WideShapes Go.ChangeAt Go.RowKit

theorem tk_out {bs cs l : List Bool} {k r : Nat} {P : List Bool × Nat} (h : tk (bs.drop k) r cs = P) (hd : bs.drop k = true :: l) (hr : r = 5) : P = ([], 4) := by
  rw [hd, tk, if_pos hr, if_pos rfl] at h; exact h.symm
theorem tk_skip {bs cs l : List Bool} {k r : Nat} {P : List Bool × Nat} (h : tk (bs.drop k) r cs = P) (hd : bs.drop k = false :: l) (hr : r = 5) : tk l 0 cs = P := by
  rw [hd, tk, if_pos hr, if_neg (by simp)] at h; exact h
theorem tk_on {bs cs l : List Bool} {k r : Nat} {b : Bool} {P : List Bool × Nat} (h : tk (bs.drop k) r cs = P) (hd : bs.drop k = b :: l) (hr : r ≠ 5) : tk l (if b then r + 1 else 0) (cs ++ [b]) = P := by
  rw [hd, tk, if_neg hr] at h; exact h
theorem tk_end {bs cs : List Bool} {k r : Nat} {P : List Bool × Nat} (h : tk (bs.drop k) r cs = P) (hk : bs.length ≤ k) : P = if r = 5 then ([], 5) else (cs, 0) := by
  rw [List.drop_eq_nil_of_le hk, tk] at h; exact h.symm

set_option maxRecDepth 100000 in
set_option maxHeartbeats 1000000 in
theorem take_any (ao : Option Addr) (n cap : Nat) (bs : List Bool) (P : List Bool × Nat) (w : World) (hn : bs.length = n) (hP : tk bs 0 [] = P) (hl : n ≤ 1000000) (h : Reads w ao (bs.map .bool)) :
    Calls Try.prog 32 #[.slice ao n cap] w fun e w' => ∃ v, e = .returned (.tuple #[v, .int .i64 P.2]) ∧ w'.ownsRow w.heap.size 4 1 v P.1.length (P.1.map .bool) ∧ Below w.heap.size w w' := by
  obtain ⟨i0, hi, hz0, hz1, hz2⟩ := info_parts info4
  have HN : Hid (bs.length = n) := hn
  have HP : Hid (tk bs 0 [] = P) := hP
  clear hn hP
  go_enter Try.func32, Try.ntmps32
  go_wp2_with (at_make; refine wpList_make_own _ rfl _ _ 27 rfl w.heap.size 4 i0 (.bool false) 1 Try.underlying27 hi hz0 hz1 _ _ _ n rfl rfl (by omega) (by rw [hz2]; omega) (by unfold maxLen; omega) (Nat.le_refl _) ?_; intro w1 hown1 hgrow1)
  have hb1 : Below w.heap.size w w1 := (Below.refl w.heap.size w).grown hgrow1 (Nat.le_refl _) (by simp)
  go_loopw [4, 5, 13] (fun v r i wr => ∃ (k ru : Nat) (cs : List Bool), k ≤ n ∧ ru ≤ 5 ∧ cs.length ≤ k ∧ i = .int .i64 k ∧ r = .int .i64 ru ∧ wr.ownsRow w.heap.size 4 1 v cs.length (cs.map .bool) ∧ Below w.heap.size w wr ∧ tk (bs.drop k) ru cs = P) (fun _ _ i _ => n - (intOf i).toNat)
  case atStart => exact ⟨0, 0, [], by omega, by omega, by simp, rfl, rfl, hown1, hb1, HP.out⟩
  case round =>
    clear hown1 hgrow1 hb1
    obtain ⟨k, ru, cs, hk, hr, hcs, rfl, rfl, hown, hbl, hs⟩ := hrel
    have HS : Hid (tk (bs.drop k) ru cs = P) := hs
    clear hs
    have hsz := hbl.size
    obtain ⟨m, hm⟩ : ∃ m, cs.length = m := ⟨_, rfl⟩
    have HM : Hid (cs.length = m) := hm
    rw [hm] at hown hcs
    clear hm
    by_cases hlt : k < n
    · have hkb : k < bs.length := by have := HN.out; omega
      obtain ⟨g, off, rfl, hc0⟩ := h.bool k hkb
      have hc := (hbl.cell (p := ⟨g, off + k, none⟩) (World.block_lt_of_cell? w _ hc0)).trans hc0
      have hd : Hid (bs.drop k = bs[k] :: bs.drop (k + 1)) := drop_cons bs k hkb
      clear hc0
      generalize bs[k] = b at hc hd
      by_cases h5 : ru = 5
      · subst h5
        cases b
        · go_wp2_with (go_at_call 43; refine (longer_none _ _).mono ?_; rintro e w' ⟨rfl, hw'⟩; obtain rfl := hw'.symm; clear hw')
          go_roundw
          case rel => exact ⟨k + 1, 0, cs, by omega, by omega, by rw [HM.out]; omega, by go_num, rfl, by rw [HM.out]; exact hown, hbl, tk_skip HS.out hd.out rfl⟩
          case measure => simp [intOf]; omega
        · have HE : Hid (P = ([], 4)) := tk_out HS.out hd.out rfl
          go_wp2
          go_ret2
          rw [HE.out]
          exact ⟨_, rfl, World.ownsRow_nil _ _ _ _, hbl⟩
      · have hr4 : ru < 5 := by omega
        cases b
        · go_wp2_with (first | (go_at_call 43; refine (longer_none _ _).mono ?_; rintro e w' ⟨rfl, hw'⟩; obtain rfl := hw'.symm; clear hw') | (at_builtin; refine wpList_append_own _ rfl _ _ 27 rfl w.heap.size 4 i0 (.bool false) 1 1 Try.underlying27 hi hz0 hz1 hz2 rfl (by decide) _ _ _ rfl (hown.alloc _) ⟨wr.heap.size, 0, none⟩ 1 1 [.bool false] rfl rfl (cell_one_new _ _ _) (by simp [Value.oneCell']) (by unfold maxLen; omega) (by omega) (by simp; omega) ?_; intro v' w2 hown' hgrow _))
          have hbl2 := (hbl.alloc hsz (.cells #[.bool false] 4)).grown (show (wr.alloc (.cells #[.bool false] 4)).grownBy w2 u4.ownBlock from hgrow) (by simp; omega) (fun k hk => (hown.lt k hk).1)
          go_roundw
          case rel => exact ⟨k + 1, 0, cs ++ [false], by omega, by omega, by simp [HM.out]; omega, by go_num, rfl, by simpa [HM.out] using hown', hbl2, tk_on HS.out hd.out h5⟩
          case measure => simp [intOf]; omega
        · go_wp2_with (first | (go_at_call 43; refine (longer_one _ _ (by omega) (by omega)).mono ?_; rintro e w' ⟨rfl, hw'⟩; obtain rfl := hw'.symm; clear hw') | (at_builtin; refine wpList_append_own _ rfl _ _ 27 rfl w.heap.size 4 i0 (.bool false) 1 1 Try.underlying27 hi hz0 hz1 hz2 rfl (by decide) _ _ _ rfl (hown.alloc _) ⟨wr.heap.size, 0, none⟩ 1 1 [.bool true] rfl rfl (cell_one_new _ _ _) (by simp [Value.oneCell']) (by unfold maxLen; omega) (by omega) (by simp; omega) ?_; intro v' w2 hown' hgrow _))
          have hbl2 := (hbl.alloc hsz (.cells #[.bool true] 4)).grown (show (wr.alloc (.cells #[.bool true] 4)).grownBy w2 u4.ownBlock from hgrow) (by simp; omega) (fun k hk => (hown.lt k hk).1)
          go_roundw
          case rel => exact ⟨k + 1, ru + 1, cs ++ [true], by omega, by omega, by simp [HM.out]; omega, by go_num, by go_num, by simpa [HM.out] using hown', hbl2, tk_on HS.out hd.out h5⟩
          case measure => simp [intOf]; omega
    · have HE : Hid (P = if ru = 5 then ([], 5) else (cs, 0)) := tk_end HS.out (by have := HN.out; omega)
      by_cases h5 : ru = 5
      · subst h5
        go_wp2
        go_ret2
        rw [HE.out]
        exact ⟨_, rfl, World.ownsRow_nil _ _ _ _, hbl⟩
      · have b1 : ((ru : Int) == 5) = false := by rw [beq_eq_false_iff_ne]; omega
        have HE2 : Hid (P = (cs, 0)) := by show P = (cs, 0); rw [HE.out, if_neg h5]
        go_wp2
        go_ret2
        rw [HE2.out]
        exact ⟨_, rfl, by simpa [HM.out] using hown, hbl⟩
end Go.Proofs.Ytfjfnfofbhikdaa.Tape
