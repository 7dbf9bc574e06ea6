/- WayKinds' walk. -/
import Derived.Test.YtmjogdhfndnbaaaWay4
import Derived.Test.YtmjogdhfndnbaaaSame6
namespace Go.Proofs.Ytmjogdhfndnbaaa.Tape
open Go.ChangeShapes Go.WideShapes Go.ChangeAt Go.RowKit
set_option linter.unusedVariables false

theorem Wt.nx_last (x : Wt) (s : Hs) : (x.nx s).1.1.last = x.last ∧ (x.nx s).1.1.cyclic = x.cyclic := by
  cases x with
  | inl t =>
    refine ⟨?_, rfl⟩
    show (t.nx s).1.1.last = t.last
    unfold Bs.nx
    split
    · exact Bs.to_last _ _ _
    · split
      · rfl
      · split <;> rfl
  | inr t =>
    refine ⟨?_, rfl⟩
    show (t.nx s).1.1.last = t.last
    have ha : ∀ t : Cs, (t.again s).1.last = t.last := fun t => by
      unfold Cs.again
      repeat' split
      all_goals rfl
    unfold Cs.nx
    split
    · exact ha _
    · split
      · exact ha _
      · split
        · exact ha _
        · rfl

attribute [local go_sem ↓] ldU_def stU_def
attribute [local go_sem] m_hold c_hold m_next c_next m_fill c_fill

set_option maxRecDepth 100000 in
theorem status_nil (st : Int) (w : World) : Calls Try.prog 11 #[.nilIface, .int .u8 st] w fun e w' => e = .returned (.agg zeroU) ∧ Below w.heap.size w w' := by
  obtain ⟨W, hW, hB, hh⟩ := new_unit w
  have hst := st_unit (ds := zeroU) hh rfl rfl (by simp [zeroU, Value.oneCell'])
  have hB2 := gb_below (putU_gb W w.heap.size zeroU) hB (Nat.le_refl _) hB.size
  have hld := (ld_unit (putU_heap (ds := zeroU) hh rfl) rfl).2
  generalize putU W w.heap.size zeroU = W2 at *
  have HL : Hid ((loadVar 36 ⟨w.heap.size, 0, none⟩).run Try.prog W2 = .ok (.agg zeroU) W2) := hld
  clear hh hld hB
  unfold zeroU at hst
  go_enter Try.func11, Try.ntmps11
  go_upto_region 1 with fail
  rw [← hW]
  clear hW
  go_wp2
  refine bodyPost_ret (v := .agg zeroU) (by simp [results, Try.results11, asAddr, HL.out]) rfl ?_
  exact ⟨rfl, hB2⟩

set_option maxRecDepth 100000 in
set_option maxHeartbeats 2000000 in
theorem kinds_walk (c : Bool) (n st : Int) (w : World) (h0 : 0 ≤ n) (h1 : n ≤ 255) (h2 : 0 ≤ st) (h3 : st ≤ 255) :
    Calls Try.prog 3 #[.bool c, .int .u8 n, .int .u8 st] w fun e w' => e = .returned (.bool true) ∧ Below w.heap.size w w' := by
  obtain ⟨k, hk⟩ : ∃ k : Nat, n % 10 = k := ⟨(n % 10).toNat, by omega⟩
  have hk10 : k < 10 := by omega
  have HK : Hid (n % 10 = k) := hk
  clear hk
  go_enter Try.func3, Try.ntmps3
  go_wp2_with fail
  refine (awake13_any _).mono ?_
  rintro e w1 ⟨rfl, hB1⟩
  go_wp2_with fail
  refine (usual_any c w1).mono ?_
  rintro e w2 ⟨rfl, hB2⟩
  have hB02 := hB1.trans (below_le hB2 hB1.size)
  clear hB1 hB2
  go_wp2_with fail
  refine (wnew_any c 8 300 16 600 600 12000 8000 4000 1200 100 4000 6000 w.heap.size w2 (by omega) (by omega) (by omega) (by omega) hB02.size).mono ?_
  rintro e w3 ⟨p, hb, T, rfl, hin, -, hB3⟩
  have hB03 := hB02.trans (below_le hB3 hB02.size)
  clear hB02 hB3
  have hx0 : (wt0 c 8 300).cyclic = c ∧ (wt0 c 8 300).last = 127 := by cases c <;> exact ⟨rfl, rfl⟩
  generalize wt0 c 8 300 = x0 at *
  rw [wayV_eq]
  go_wp2_with fail
  go_loopw [8] (fun i wr => ∃ (q : Nat) (x : Wt) (s : Hs) (T1 : Nat → Prop), q ≤ k ∧ i = .int .i64 q ∧ x.cyclic = c ∧ x.last = 127 ∧ WayIn wr p hb w.heap.size T1 x s ∧ Below w.heap.size w wr) (fun i _ => k - (intOf i).toNat)
  case atStart => exact ⟨0, x0, _, T, by omega, rfl, hx0.1, hx0.2, hin, hB03⟩
  case round =>
    clear hin hB03 hx0
    obtain ⟨q, x, s, T1, hq, rfl, hxc, hxl, hin, hB⟩ := hrel
    by_cases hlt : q < k
    · have hho := whold_any p hb _ _ _ _ _ hin
      rw [hxc] at hho
      obtain ⟨W, hW⟩ : ∃ W, W = wr.alloc (.cells #[.int .u8 q, .int .u8 1, .int .u8 2] 5) := ⟨_, rfl⟩
      have hBW : Below wr.heap.size wr W := by rw [hW]; exact (Below.refl _ _).alloc (Nat.le_refl _) _
      have hrW : Reads W (some ⟨wr.heap.size, 0, none⟩) (([(q : Int), 1, 2] : List Int).map (.int .u8)) := by rw [hW]; exact reads_lit wr [(q : Int), 1, 2] (0, 0)
      have hinW := hin.below hBW
      have hBw : Below w.heap.size w W := hB.trans (below_le hBW hB.size)
      have hput := put_any hb w.heap.size T1 s (some ⟨wr.heap.size, 0, none⟩) 3 3 [(q : Int), 1, 2] W hinW.hold rfl (by omega) hrW (by intro y hy; simp at hy; omega) hBw.size
      have HIN : Hid (WayIn W p hb w.heap.size T1 x s) := hinW
      have HB : Hid (Below w.heap.size w W) := hBw
      have HX : Hid (x.cyclic = c ∧ x.last = 127) := ⟨hxc, hxl⟩
      clear hin hB hBW hrW hinW hBw hxc hxl
      have hk := HK.out
      go_upto_region 7 with fail
      clear hk
      go_wp2_with (with_reducible change Calls Try.prog (fHold _) _ _ _; refine hho.mono ?_; rintro e w4 ⟨rfl, hw4⟩; obtain rfl := hw4.symm; clear hw4)
      rw [← hW]
      refine hput.mono ?_
      rintro e w4 ⟨rfl, T4, hat4, hF4⟩
      obtain ⟨hin4, hF4'⟩ := HIN.out.step hat4 hF4
      have hB4 := HB.out.trans (HIN.out.fbelow hF4' (Nat.le_refl _) HB.out.size)
      have hnx := wnext_any p hb _ _ _ _ _ hin4 hB4.size
      rw [HX.out.1] at hnx
      have HIN4 : Hid (WayIn w4 p hb w.heap.size T4 x (s.put [(q : Int), 1, 2])) := hin4
      have HB4 : Hid (Below w.heap.size w w4) := hB4
      clear hho hput hW hat4 hF4 hF4' hin4 hB4
      go_wp2_with fail
      refine hnx.mono ?_
      rintro e w5 ⟨v, T5, rfl, -, hin5, hF5⟩
      have HIN5 : Hid (WayIn w5 p hb w.heap.size T5 (x.nx (s.put [(q : Int), 1, 2])).1.1 (x.nx (s.put [(q : Int), 1, 2])).1.2) := hin5
      have HB5 : Hid (Below w.heap.size w w5) := HB4.out.trans (HIN4.out.fbelow hF5 (Nat.le_refl _) HB4.out.size)
      clear hin5 hF5 hnx
      go_wp2_with fail
      go_roundw
      case rel => exact ⟨q + 1, _, _, T5, by omega, by go_num, (Wt.nx_last _ _).2.trans HX.out.1, (Wt.nx_last _ _).1.trans HX.out.2, HIN5.out, HB5.out⟩
      case measure => simp [intOf]; omega
    · have hk := HK.out
      go_upto_region 9 with fail
      clear hk hlt hq
      have hstt := status_any c st p hb w.heap.size T1 x s wr hin hxc
      have HIN : Hid (WayIn wr p hb w.heap.size T1 x s) := hin
      have HB : Hid (Below w.heap.size w wr) := hB
      have HX : Hid (x.cyclic = c ∧ x.last = 127) := ⟨hxc, hxl⟩
      clear hin hB hxc hxl
      go_wp2_with fail
      refine hstt.mono ?_
      rintro e w4 ⟨rfl, hB4⟩
      obtain ⟨W5, hst5, hB5, hh5⟩ := kept_any w4 (stUnit x s st) rfl (by simp [stUnit, Value.oneCell'])
      have hB5' := hB4.trans (below_le hB5 hB4.size)
      have hin5 := HIN.out.below hB5'
      have hfi := wfill_any p hb _ _ _ _ _ hin5
      rw [HX.out.1] at hfi
      have HIN5 : Hid (WayIn W5 p hb w.heap.size T1 x s) := hin5
      have HH5 : Hid (W5.heap[w4.heap.size]? = some (.cells (stUnit x s st) 36 (0, 0))) := hh5
      have HB5 : Hid (Below w.heap.size w W5) := HB.out.trans (below_le hB5' HB.out.size)
      clear hstt hB4 hB5 hB5' hh5 hin5
      go_wp2_with fail
      refine hfi.mono ?_
      rintro e w6 ⟨rfl, hB6⟩
      obtain ⟨W7, hst7, hB7, hh7⟩ := kept_any w6 (uC x.last s.last x.bib x.fib 0 (.slice none 0 0)) rfl (uC_one _ _ _ _ _ _ _ _)
      have hB7' := hB6.trans (below_le hB7 hB6.size)
      have hh5 := (hB7'.block _ (heap_lt HH5.out)).trans HH5.out
      have hin7 := HIN5.out.below hB7'
      have hne : w4.heap.size ≠ w6.heap.size := Nat.ne_of_lt (Nat.lt_of_lt_of_le (heap_lt HH5.out) hB6.size)
      have hB07 : Below w.heap.size w W7 := HB5.out.trans (below_le hB7' HB5.out.size)
      have hle7 : w.heap.size ≤ w6.heap.size := Nat.le_trans HB5.out.size hB6.size
      obtain ⟨W8, hW8⟩ : ∃ W8, W8 = (W7.setCell ⟨w6.heap.size, 4, none⟩ (.int .u8 1)).setCell ⟨w6.heap.size, 5, none⟩ (.int .u8 st) := ⟨_, rfl⟩
      have hh7' : W7.heap[w6.heap.size]? = some (.cells [.int .u8 x.last, .int .u8 s.last, .bool x.bib, .bool x.fib, .int .u8 0, .int .u8 0, .bool false, .slice none 0 0].toArray 36 (0, 0)) := hh7
      have hh8 : W8.heap[w6.heap.size]? = some (.cells (stUnit x s st) 36 (0, 0)) := by
        rw [hW8]
        exact row_set (row_set hh7' 4 (.int .u8 1)) 5 (.int .u8 st)
      have hg8 : W7.grownBy W8 (some w6.heap.size) := by
        rw [hW8]
        exact (gb_set _).trans (gb_set _)
      have hB08 := gb_below hg8 hB07 hle7 hB07.size
      have hh5' := (hg8.block _ (heap_lt hh5) (fun e => hne (by simpa using e))).trans hh5
      have hin8 := (by
        have hn := hin7.notU w6.heap.size _ hh7
        exact hin7.other (T1 := fun g => g = w6.heap.size) (T1' := fun _ => False) ⟨hg8.os, hg8.tape, hg8.output, hg8.size, fun j hj hne => hg8.block j hj (fun e => hne (by simpa using e)), fun _ h => h.elim⟩ (fun g hg e => hn (e ▸ hg)) (fun g cur hg e => by
          subst e
          rw [hh7] at hg
          simp at hg) : WayIn W8 p hb w.heap.size T1 x s)
      obtain ⟨⟨-, -, -, -, c4, c5, -⟩, hfz⟩ := unit_cells hh7
      have f4 := hfz 4
      have f5 : (W7.setCell ⟨w6.heap.size, 4, none⟩ (.int .u8 1)).frozen? ⟨w6.heap.size, 5, none⟩ = false := (unit_cells (row_set hh7' 4 (.int .u8 1))).2 5
      have hl1 := (ld_unit hh5' rfl).1
      have hl2 := (ld_unit hh8 rfl).1
      have HB8 : Hid (Below w.heap.size w W8) := hB08
      have HIN8 : Hid (WayIn W8 p hb w.heap.size T1 x s) := hin8
      clear hfi hB6 hB7 hB7' hh5 hin7 hne hB07 hle7 hh7' hh8 hg8 hB08 hh5' hin8 hfz hh7
      go_upto_region 11 with fail
      go_upto_region 13 with fail
      rw [← hW8]
      clear hW8 hst5 hst7 c4 c5 f4 f5
      have HN : Hid (∀ (c : Bool) (p : Nat) (w : World), Calls Try.prog 12 #[.iface (wT c) (.pointer (some ⟨p, 0, none⟩))] w fun e w' => e = .returned (.string (wayN c)) ∧ w' = w) := name_any
      have HC : Hid (∀ (c : Bool) (p : Nat) (w : World), Calls Try.prog 13 #[.iface (wT c) (.pointer (some ⟨p, 0, none⟩))] w fun e w' => e = .returned (.bool c) ∧ w' = w) := cyclic_any
      have HS : Hid (Calls Try.prog 16 #[.agg (stUnit x s st), .agg (stUnit x s st)] W8 fun e w' => e = .returned (.bool true) ∧ Below W8.heap.size W8 w') := rsame6_any _ _ _ _ _ _ _ none 0 0 [] _ _ _ _ _ _ _ none 0 0 [] true W8 (by simp) rfl rfl (by simp) (by simp) (Reads.nil _ _) (Reads.nil _ _)
      have HS0 : Hid (∀ w, Calls Try.prog 16 #[.agg zeroU, .agg zeroU] w fun e w' => e = .returned (.bool true) ∧ Below w.heap.size w w') := fun w => rsame6_any _ _ _ _ _ _ _ none 0 0 [] _ _ _ _ _ _ _ none 0 0 [] true w (by simp) rfl rfl (by simp) (by simp) (Reads.nil _ _) (Reads.nil _ _)
      have HN0 : Hid (∀ w, Calls Try.prog 12 #[.nilIface] w fun e w' => e = .returned (.string ⟨#[]⟩) ∧ w' = w) := name_nil
      have HC0 : Hid (∀ w, Calls Try.prog 13 #[.nilIface] w fun e w' => e = .returned (.bool false) ∧ w' = w) := cyclic_nil
      cases c
      · obtain ⟨t, rfl⟩ : ∃ t, x = .inl t := by
          cases x with
          | inl t => exact ⟨t, rfl⟩
          | inr t => exact Bool.noConfusion (show true = false from HX.out.1)
        have HBA : Hid (Calls Try.prog 14 #[.iface (wT false) (.pointer (some ⟨p, 0, none⟩))] W8 fun e w' => e = .returned (.pointer (some ⟨p, 0, none⟩)) ∧ w' = W8) := basic_any p W8
        have htk := taken_any p hb _ _ _ _ _ HIN8.out
        have e127 : t.last = 127 := HX.out.2
        rw [e127] at htk
        have HTK : Hid (Calls Try.prog 15 #[.pointer (some ⟨p, 0, none⟩)] W8 fun e w' => e = .returned (.int .u8 127) ∧ w' = W8) := htk
        clear htk e127
        go_wp2_with (first
          | (go_at_call 12; refine (HN.out _ _ _).mono ?_; rintro e w9 ⟨rfl, hw9⟩; obtain rfl := hw9.symm; clear hw9; simp only [wayN, Bool.false_eq_true, if_false])
          | (go_at_call 13; refine (HC.out _ _ _).mono ?_; rintro e w9 ⟨rfl, hw9⟩; obtain rfl := hw9.symm; clear hw9)
          | (go_at_call 14; refine HBA.out.mono ?_; rintro e w9 ⟨rfl, hw9⟩; obtain rfl := hw9.symm; clear hw9)
          | (go_at_call 15; refine HTK.out.mono ?_; rintro e w9 ⟨rfl, hw9⟩; obtain rfl := hw9.symm; clear hw9))
        refine HS.out.mono ?_
        rintro e w9 ⟨rfl, hB9⟩
        have HB9 : Hid (Below w.heap.size w w9) := HB8.out.trans (below_le hB9 HB8.out.size)
        have HZ : Hid (Calls Try.prog 11 #[.nilIface, .int .u8 st] w9 fun e w' => e = .returned (.agg zeroU) ∧ Below w9.heap.size w9 w') := status_nil st w9
        clear hB9 hl1 hl2
        go_wp2_with (first
          | (go_at_call 12; refine (HN0.out _).mono ?_; rintro e w10 ⟨rfl, hw10⟩; obtain rfl := hw10.symm; clear hw10)
          | (go_at_call 13; refine (HC0.out _).mono ?_; rintro e w10 ⟨rfl, hw10⟩; obtain rfl := hw10.symm; clear hw10)
          | (go_at_call 11; refine HZ.out.mono ?_; rintro e w10 ⟨rfl, hB10⟩))
        refine (HS0.out w10).mono ?_
        rintro e w11 ⟨rfl, hB11⟩
        have HB11 : Hid (Below w.heap.size w w11) := HB9.out.trans (below_le (hB10.trans (below_le hB11 hB10.size)) HB9.out.size)
        clear hB10 hB11
        go_wp2
        go_ret
        exact ⟨rfl, HB11.out⟩
      · go_wp2_with (first
          | (go_at_call 12; refine (HN.out _ _ _).mono ?_; rintro e w9 ⟨rfl, hw9⟩; obtain rfl := hw9.symm; clear hw9; simp only [wayN, if_true])
          | (go_at_call 13; refine (HC.out _ _ _).mono ?_; rintro e w9 ⟨rfl, hw9⟩; obtain rfl := hw9.symm; clear hw9))
        refine HS.out.mono ?_
        rintro e w9 ⟨rfl, hB9⟩
        have HB9 : Hid (Below w.heap.size w w9) := HB8.out.trans (below_le hB9 HB8.out.size)
        have HZ : Hid (Calls Try.prog 11 #[.nilIface, .int .u8 st] w9 fun e w' => e = .returned (.agg zeroU) ∧ Below w9.heap.size w9 w') := status_nil st w9
        clear hB9 hl1 hl2
        go_wp2_with (first
          | (go_at_call 12; refine (HN0.out _).mono ?_; rintro e w10 ⟨rfl, hw10⟩; obtain rfl := hw10.symm; clear hw10)
          | (go_at_call 13; refine (HC0.out _).mono ?_; rintro e w10 ⟨rfl, hw10⟩; obtain rfl := hw10.symm; clear hw10)
          | (go_at_call 11; refine HZ.out.mono ?_; rintro e w10 ⟨rfl, hB10⟩))
        refine (HS0.out w10).mono ?_
        rintro e w11 ⟨rfl, hB11⟩
        have HB11 : Hid (Below w.heap.size w w11) := HB9.out.trans (below_le (hB10.trans (below_le hB11 hB10.size)) HB9.out.size)
        clear hB10 hB11
        go_wp2
        go_ret
        exact ⟨rfl, HB11.out⟩
end Go.Proofs.Ytmjogdhfndnbaaa.Tape
