/- The walk of the law TapeTexts: it returns true and writes nothing that was there. -/
import Derived.Test.YtpneddlfejjdeaaTape7
namespace Go.Proofs.Ytpneddlfejjdeaa.Tape
open Go.ChangeShapes Go.WideShapes Go.ChangeAt Go.RowKit

theorem sel_txt : ∀ bs : List Bool, sel (txt bs) = bs
  | [] => rfl
  | b :: bs => by
    have ih := sel_txt bs
    simp only [txt, sel, List.map_cons] at ih ⊢
    cases b
    · rw [List.filterMap_cons_some (b := false) (by rfl), ih]
    · rw [List.filterMap_cons_some (b := true) (by rfl), ih]
theorem allOk_txt (bs : List Bool) : allOk (txt bs) = true := by
  rw [allOk, List.all_eq_true]
  intro c hc
  obtain ⟨b, _, rfl⟩ := List.mem_map.1 hc
  cases b <;> rfl

theorem parse_ok (s : ByteArray) (w : World) (hs : s.size ≤ 1000000) (h : allOk s.data.toList = true) :
    Calls Try.prog 25 #[.string s] w fun e w' => ∃ v, e = .returned (.tuple #[v, .int .i64 0]) ∧ w'.ownsRow w.heap.size 4 1 v (sel s.data.toList).length ((sel s.data.toList).map .bool) ∧ Below w.heap.size w w' := by
  refine (parse_any s w hs).mono ?_
  rintro e w' ⟨hb, ⟨_, v, rfl, ho⟩ | ⟨h', _⟩⟩
  · exact ⟨v, rfl, ho, hb⟩
  · rw [h] at h'; cases h'
theorem parse_err (s : ByteArray) (w : World) (hs : s.size ≤ 1000000) (h : allOk s.data.toList = false) :
    Calls Try.prog 25 #[.string s] w fun e w' => e = .returned (.tuple #[.slice none 0 0, .int .i64 11]) ∧ Below w.heap.size w w' := by
  refine (parse_any s w hs).mono ?_
  rintro e w' ⟨hb, ⟨h', _⟩ | ⟨_, rfl⟩⟩
  · rw [h] at h'; cases h'
  · exact ⟨rfl, hb⟩
theorem parse_text (bs : List Bool) (w : World) (hl : bs.length ≤ 1000000) :
    Calls Try.prog 25 #[.string ⟨(txt bs).toArray⟩] w fun e w' => ∃ v, e = .returned (.tuple #[v, .int .i64 0]) ∧ w'.ownsRow w.heap.size 4 1 v bs.length (bs.map .bool) ∧ Below w.heap.size w w' := by
  have h := parse_ok ⟨(txt bs).toArray⟩ w (by show (txt bs).toArray.size ≤ _; simp [txt_len, hl]) (by simpa using allOk_txt bs)
  have e : sel (⟨(txt bs).toArray⟩ : ByteArray).data.toList = bs := by simpa using sel_txt bs
  rwa [e] at h

set_option maxRecDepth 100000 in
set_option maxHeartbeats 4000000 in
theorem texts_walk (ao : Option Addr) (cap : Nat) (xs : List Int) (s : ByteArray) (w : World) (hr : Reads w ao (xs.map (.int .u8))) (hx : ∀ x ∈ xs, 0 ≤ x ∧ x ≤ 255) (hs : s.size ≤ maxLen) :
    Calls Try.prog 8 #[.slice ao xs.length cap, .string s] w fun e w' => e = .returned (.bool true) ∧ Below w.heap.size w w' := by
  unfold maxLen at hs
  by_cases hlen : 100 < xs.length ∨ 200 < s.size
  · rcases hlen with hlen | hlen
    · go_enter Try.func8, Try.ntmps8
      go_wp2_with fail
      refine (awake_any _).mono ?_
      rintro e w1 ⟨rfl, hb1⟩
      go_wp2_with fail
      refine (awake_any _).mono ?_
      rintro e w2 ⟨rfl, hb2⟩
      go_wp2
      go_ret
      exact ⟨rfl, hb1.trans (hb2.mono hb1.size)⟩
    · by_cases hx100 : 100 < xs.length
      all_goals
        go_enter Try.func8, Try.ntmps8
        go_wp2_with fail
        refine (awake_any _).mono ?_
        rintro e w1 ⟨rfl, hb1⟩
        go_wp2_with fail
        refine (awake_any _).mono ?_
        rintro e w2 ⟨rfl, hb2⟩
        go_wp2
        go_ret
        exact ⟨rfl, hb1.trans (hb2.mono hb1.size)⟩
  · have hl : xs.length ≤ 100 := by omega
    have hl2 : s.size ≤ 200 := by omega
    obtain ⟨i0, hi, hz0, hz1, hz2⟩ := info_parts info4
    clear hlen
    go_enter Try.func8, Try.ntmps8
    go_wp2_with fail
    refine (awake_any _).mono ?_
    rintro e w1 ⟨rfl, hb1⟩
    have hr1 := hr.below (Nat.le_refl _) hb1
    go_wp2_with fail
    refine (rbits_any _ _ _ _ (by omega) hx hr1).mono ?_
    rintro e w2 ⟨t, rfl, hown, hb2⟩
    have hB2 := hb1.trans (hb2.mono hb1.size)
    obtain ⟨to, ct, rfl, -, hrt, -⟩ := owns_form hown
    obtain ⟨bs, hbs⟩ : ∃ bs, bs = bits xs := ⟨_, rfl⟩
    obtain ⟨M, hM⟩ : ∃ M, 8 * xs.length = M := ⟨_, rfl⟩
    have hbl := bits_len xs
    rw [hM, ← hbs] at hbl
    rw [← hbs] at hrt
    rw [hM]
    have HB : Hid (bs.length = M) := hbl
    have hM' : M ≤ 800 := by omega
    clear hown hr1 hr hbs hM hbl hb1 hb2 hx
    go_wp2_with fail
    refine (text_n _ _ _ bs _ HB.out (by omega) hrt).mono ?_
    rintro e w3 ⟨rfl, hb3⟩
    have hrt3 := hrt.below (Nat.le_refl _) hb3
    have hB3 := hB2.trans (hb3.mono hB2.size)
    clear hrt hb3
    go_wp2_with fail
    refine (parse_text bs _ (by have := HB.out; omega)).mono ?_
    rintro e w4 ⟨u, rfl, hu, hb4⟩
    obtain ⟨uo, cu, rfl, -, hru, -⟩ := owns_form hu
    rw [HB.out]
    have hrt4 := hrt3.below (Nat.le_refl _) hb4
    have hB4 := hB3.trans (hb4.mono hB3.size)
    clear hrt3 hb4 hu
    cases hall : allOk s.data.toList
    · have HALL : Hid (allOk s.data.toList = false) := hall
      clear hall
      go_wp2_with fail
      refine (parse_err s _ (by omega) HALL.out).mono ?_
      rintro e w5 ⟨rfl, hb5⟩
      have hrt5 := hrt4.below (Nat.le_refl _) hb5
      have hru5 := hru.below (Nat.le_refl _) hb5
      have hB5 := hB4.trans (hb5.mono hB4.size)
      clear hrt4 hru hb5
      go_wp2_with fail
      go_loopw [10, 11, 12] (fun v b i wr => ∃ k : Nat, k ≤ s.size ∧ i = .int .i64 k ∧ wr.ownsRow w5.heap.size 4 1 v (sel (s.data.toList.take k)).length ((sel (s.data.toList.take k)).map .bool) ∧ b = .bool (allOk (s.data.toList.take k)) ∧ Below w5.heap.size w5 wr) (fun _ _ i _ => s.size - (intOf i).toNat)
      case atStart => exact ⟨0, by omega, rfl, World.ownsRow_nil _ _ _ _, rfl, Below.refl _ _⟩
      case round =>
        obtain ⟨k, hk, rfl, hown, rfl, hbl⟩ := hrel
        have hsz := hbl.size
        have hll : (sel (s.data.toList.take k)).length ≤ k := Nat.le_trans (sel_len _) (List.length_take_le _ _)
        by_cases hlt : k < s.size
        · have HSN : Hid (s.data.toList.take (k + 1) = s.data.toList.take k ++ [s[k]]) := str_snoc s k hlt
          obtain ⟨c, hc⟩ : ∃ c : Nat, s[k].toNat = c := ⟨_, rfl⟩
          have HC : Hid (s[k].toNat = c) := hc
          have h5 : c = 48 ∨ c = 49 ∨ c = 32 ∨ c = 95 ∨ (c ≠ 48 ∧ c ≠ 49 ∧ c ≠ 32 ∧ c ≠ 95) := by omega
          rcases h5 with rfl | rfl | rfl | rfl | ⟨h1, h2, h3, h4⟩
          · go_wp2_with (at_builtin; refine wpList_append_own _ rfl _ _ 32 rfl w5.heap.size 4 i0 (.bool false) 1 1 Try.underlying32 hi hz0 hz1 hz2 rfl (by decide) _ _ _ rfl (hown.alloc _) ⟨wr.heap.size, 0, none⟩ 1 1 [.bool false] rfl rfl (cell_one_new _ _ _) (by simp [Value.oneCell']) (by unfold maxLen; omega) (by omega) (by simp; omega) ?_; intro v' w6 hown' hgrow _)
            have hbl2 := (hbl.alloc hsz (.cells #[.bool false] 4)).grown (show (wr.alloc (.cells #[.bool false] 4)).grownBy w6 u10.ownBlock from hgrow) (by simp; omega) (fun k hk => (hown.lt k hk).1)
            go_roundw
            case rel => exact ⟨k + 1, by omega, by go_num, by rw [HSN.out, sel_snoc, HC.out]; simpa using hown', by rw [HSN.out, allOk_snoc, HC.out, show ok1 _ = true from rfl, Bool.and_true], hbl2⟩
            case measure => simp [intOf]; omega
          · go_wp2_with (at_builtin; refine wpList_append_own _ rfl _ _ 32 rfl w5.heap.size 4 i0 (.bool false) 1 1 Try.underlying32 hi hz0 hz1 hz2 rfl (by decide) _ _ _ rfl (hown.alloc _) ⟨wr.heap.size, 0, none⟩ 1 1 [.bool true] rfl rfl (cell_one_new _ _ _) (by simp [Value.oneCell']) (by unfold maxLen; omega) (by omega) (by simp; omega) ?_; intro v' w6 hown' hgrow _)
            have hbl2 := (hbl.alloc hsz (.cells #[.bool true] 4)).grown (show (wr.alloc (.cells #[.bool true] 4)).grownBy w6 u10.ownBlock from hgrow) (by simp; omega) (fun k hk => (hown.lt k hk).1)
            go_roundw
            case rel => exact ⟨k + 1, by omega, by go_num, by rw [HSN.out, sel_snoc, HC.out]; simpa using hown', by rw [HSN.out, allOk_snoc, HC.out, show ok1 _ = true from rfl, Bool.and_true], hbl2⟩
            case measure => simp [intOf]; omega
          · go_wp2
            go_roundw
            case rel => exact ⟨k + 1, by omega, by go_num, by rw [HSN.out, sel_snoc, HC.out]; simpa using hown, by rw [HSN.out, allOk_snoc, HC.out, show ok1 _ = true from rfl, Bool.and_true], hbl⟩
            case measure => simp [intOf]; omega
          · go_wp2
            go_roundw
            case rel => exact ⟨k + 1, by omega, by go_num, by rw [HSN.out, sel_snoc, HC.out]; simpa using hown, by rw [HSN.out, allOk_snoc, HC.out, show ok1 _ = true from rfl, Bool.and_true], hbl⟩
            case measure => simp [intOf]; omega
          · have b1 : ((c : Int) == 48) = false := by rw [beq_eq_false_iff_ne]; omega
            have b2 : ((c : Int) == 49) = false := by rw [beq_eq_false_iff_ne]; omega
            have b3 : ((c : Int) == 32) = false := by rw [beq_eq_false_iff_ne]; omega
            have b4 : ((c : Int) == 95) = false := by rw [beq_eq_false_iff_ne]; omega
            have HNO : Hid (ok1 c = false) := by show ok1 c = false; simp [ok1, h1, h2, h3, h4]
            have HS : Hid (sel (s.data.toList.take (k + 1)) = sel (s.data.toList.take k)) := by show sel _ = sel _; rw [HSN.out, sel_snoc, HC.out, if_neg h1, if_neg h2, List.append_nil]
            clear h1 h2 h3 h4
            go_wp2
            go_roundw
            case rel => exact ⟨k + 1, by omega, by go_num, by rw [HS.out]; exact hown, by rw [HSN.out, allOk_snoc, HC.out, HNO.out, Bool.and_false], hbl⟩
            case measure => simp [intOf]; omega
        · rw [List.take_of_length_le (show s.data.toList.length ≤ k by simp; omega)] at hown hll ⊢
          rw [HALL.out]
          have hrt6 := hrt5.below (Nat.le_refl _) hbl
          have hru6 := hru5.below (Nat.le_refl _) hbl
          have hB6 := hB5.trans (hbl.mono hB5.size)
          clear hown hrt5 hru5
          have hdd : decide (bs = bs) = true := by simp
          go_wp2_with fail
          refine (rsame_n _ _ _ _ _ _ bs bs _ HB.out HB.out (by omega) (by omega) hru6 hrt6).mono ?_
          rintro e w9 ⟨rfl, hb9⟩
          go_wp2
          go_ret
          exact ⟨by simp, hB6.trans (hb9.mono hB6.size)⟩
    · have HALL : Hid (allOk s.data.toList = true) := hall
      clear hall
      go_wp2_with fail
      refine (parse_ok s _ (by omega) HALL.out).mono ?_
      rintro e w5 ⟨v, rfl, hv, hb5⟩
      obtain ⟨vo, cv, rfl, -, hrv, -⟩ := owns_form hv
      have hrt5 := hrt4.below (Nat.le_refl _) hb5
      have hru5 := hru.below (Nat.le_refl _) hb5
      have hB5 := hB4.trans (hb5.mono hB4.size)
      clear hrt4 hru hb5 hv
      go_wp2_with fail
      go_loopw [10, 11, 12] (fun v b i wr => ∃ k : Nat, k ≤ s.size ∧ i = .int .i64 k ∧ wr.ownsRow w5.heap.size 4 1 v (sel (s.data.toList.take k)).length ((sel (s.data.toList.take k)).map .bool) ∧ b = .bool (allOk (s.data.toList.take k)) ∧ Below w5.heap.size w5 wr) (fun _ _ i _ => s.size - (intOf i).toNat)
      case atStart => exact ⟨0, by omega, rfl, World.ownsRow_nil _ _ _ _, rfl, Below.refl _ _⟩
      case round =>
        obtain ⟨k, hk, rfl, hown, rfl, hbl⟩ := hrel
        have hsz := hbl.size
        have hll : (sel (s.data.toList.take k)).length ≤ k := Nat.le_trans (sel_len _) (List.length_take_le _ _)
        by_cases hlt : k < s.size
        · have HSN : Hid (s.data.toList.take (k + 1) = s.data.toList.take k ++ [s[k]]) := str_snoc s k hlt
          obtain ⟨c, hc⟩ : ∃ c : Nat, s[k].toNat = c := ⟨_, rfl⟩
          have HC : Hid (s[k].toNat = c) := hc
          have h5 : c = 48 ∨ c = 49 ∨ c = 32 ∨ c = 95 ∨ (c ≠ 48 ∧ c ≠ 49 ∧ c ≠ 32 ∧ c ≠ 95) := by omega
          rcases h5 with rfl | rfl | rfl | rfl | ⟨h1, h2, h3, h4⟩
          · go_wp2_with (at_builtin; refine wpList_append_own _ rfl _ _ 32 rfl w5.heap.size 4 i0 (.bool false) 1 1 Try.underlying32 hi hz0 hz1 hz2 rfl (by decide) _ _ _ rfl (hown.alloc _) ⟨wr.heap.size, 0, none⟩ 1 1 [.bool false] rfl rfl (cell_one_new _ _ _) (by simp [Value.oneCell']) (by unfold maxLen; omega) (by omega) (by simp; omega) ?_; intro v' w6 hown' hgrow _)
            have hbl2 := (hbl.alloc hsz (.cells #[.bool false] 4)).grown (show (wr.alloc (.cells #[.bool false] 4)).grownBy w6 u10.ownBlock from hgrow) (by simp; omega) (fun k hk => (hown.lt k hk).1)
            go_roundw
            case rel => exact ⟨k + 1, by omega, by go_num, by rw [HSN.out, sel_snoc, HC.out]; simpa using hown', by rw [HSN.out, allOk_snoc, HC.out, show ok1 _ = true from rfl, Bool.and_true], hbl2⟩
            case measure => simp [intOf]; omega
          · go_wp2_with (at_builtin; refine wpList_append_own _ rfl _ _ 32 rfl w5.heap.size 4 i0 (.bool false) 1 1 Try.underlying32 hi hz0 hz1 hz2 rfl (by decide) _ _ _ rfl (hown.alloc _) ⟨wr.heap.size, 0, none⟩ 1 1 [.bool true] rfl rfl (cell_one_new _ _ _) (by simp [Value.oneCell']) (by unfold maxLen; omega) (by omega) (by simp; omega) ?_; intro v' w6 hown' hgrow _)
            have hbl2 := (hbl.alloc hsz (.cells #[.bool true] 4)).grown (show (wr.alloc (.cells #[.bool true] 4)).grownBy w6 u10.ownBlock from hgrow) (by simp; omega) (fun k hk => (hown.lt k hk).1)
            go_roundw
            case rel => exact ⟨k + 1, by omega, by go_num, by rw [HSN.out, sel_snoc, HC.out]; simpa using hown', by rw [HSN.out, allOk_snoc, HC.out, show ok1 _ = true from rfl, Bool.and_true], hbl2⟩
            case measure => simp [intOf]; omega
          · go_wp2
            go_roundw
            case rel => exact ⟨k + 1, by omega, by go_num, by rw [HSN.out, sel_snoc, HC.out]; simpa using hown, by rw [HSN.out, allOk_snoc, HC.out, show ok1 _ = true from rfl, Bool.and_true], hbl⟩
            case measure => simp [intOf]; omega
          · go_wp2
            go_roundw
            case rel => exact ⟨k + 1, by omega, by go_num, by rw [HSN.out, sel_snoc, HC.out]; simpa using hown, by rw [HSN.out, allOk_snoc, HC.out, show ok1 _ = true from rfl, Bool.and_true], hbl⟩
            case measure => simp [intOf]; omega
          · have b1 : ((c : Int) == 48) = false := by rw [beq_eq_false_iff_ne]; omega
            have b2 : ((c : Int) == 49) = false := by rw [beq_eq_false_iff_ne]; omega
            have b3 : ((c : Int) == 32) = false := by rw [beq_eq_false_iff_ne]; omega
            have b4 : ((c : Int) == 95) = false := by rw [beq_eq_false_iff_ne]; omega
            have HNO : Hid (ok1 c = false) := by show ok1 c = false; simp [ok1, h1, h2, h3, h4]
            have HS : Hid (sel (s.data.toList.take (k + 1)) = sel (s.data.toList.take k)) := by show sel _ = sel _; rw [HSN.out, sel_snoc, HC.out, if_neg h1, if_neg h2, List.append_nil]
            clear h1 h2 h3 h4
            go_wp2
            go_roundw
            case rel => exact ⟨k + 1, by omega, by go_num, by rw [HS.out]; exact hown, by rw [HSN.out, allOk_snoc, HC.out, HNO.out, Bool.and_false], hbl⟩
            case measure => simp [intOf]; omega
        · rw [List.take_of_length_le (show s.data.toList.length ≤ k by simp; omega)] at hown hll ⊢
          rw [HALL.out]
          have hrt6 := hrt5.below (Nat.le_refl _) hbl
          have hru6 := hru5.below (Nat.le_refl _) hbl
          have hB6 := hB5.trans (hbl.mono hB5.size)
          have hrv6 := hrv.below (Nat.le_refl _) hbl
          obtain ⟨wo, cw, rfl, -, hrw, -⟩ := owns_form hown
          have hsl := Nat.le_trans (sel_len s.data.toList) (show s.data.toList.length ≤ 200 by simpa using hl2)
          obtain ⟨ss, hss⟩ : ∃ ss, sel s.data.toList = ss := ⟨_, rfl⟩
          rw [hss] at hrv6 hrw hsl ⊢
          obtain ⟨N, hN⟩ : ∃ N, ss.length = N := ⟨_, rfl⟩
          have HN : Hid (ss.length = N) := hN
          rw [hN] at hsl ⊢
          clear hown hrt5 hru5 hrv hss hN hll
          go_wp2_with fail
          refine (text_n _ _ _ bs _ HB.out (by omega) hrt6).mono ?_
          rintro e w7 ⟨rfl, hb7⟩
          have hrt7 := hrt6.below (Nat.le_refl _) hb7
          have hru7 := hru6.below (Nat.le_refl _) hb7
          have hrv7 := hrv6.below (Nat.le_refl _) hb7
          have hrw7 := hrw.below (Nat.le_refl _) hb7
          have hB7 := hB6.trans (hb7.mono hB6.size)
          clear hrt6 hru6 hrv6 hrw hb7
          go_wp2_with fail
          refine (rtext_n _ _ _ bs _ HB.out (by omega) hrt7).mono ?_
          rintro e w8 ⟨rfl, hb8⟩
          have hrt8 := hrt7.below (Nat.le_refl _) hb8
          have hru8 := hru7.below (Nat.le_refl _) hb8
          have hrv8 := hrv7.below (Nat.le_refl _) hb8
          have hrw8 := hrw7.below (Nat.le_refl _) hb8
          have hB8 := hB7.trans (hb8.mono hB7.size)
          have htt : (txt bs == txt bs) = true := by simp
          have hdd : decide (bs = bs) = true := by simp
          clear hrt7 hru7 hrv7 hrw7 hb8
          go_wp2_with fail
          refine (rsame_n _ _ _ _ _ _ bs bs _ HB.out HB.out (by omega) (by omega) hru8 hrt8).mono ?_
          rintro e w9 ⟨rfl, hb9⟩
          have hrv9 := hrv8.below (Nat.le_refl _) hb9
          have hrw9 := hrw8.below (Nat.le_refl _) hb9
          have hB9 := hB8.trans (hb9.mono hB8.size)
          clear hrt8 hru8 hrv8 hrw8 hb9
          go_wp2_with fail
          refine (rsame_n _ _ _ _ _ _ ss ss _ HN.out HN.out (by omega) (by omega) hrv9 hrw9).mono ?_
          rintro e w10 ⟨rfl, hb10⟩
          go_wp2
          go_ret
          exact ⟨by simp, hB9.trans (hb10.mono hB9.size)⟩
end Go.Proofs.Ytpneddlfejjdeaa.Tape
