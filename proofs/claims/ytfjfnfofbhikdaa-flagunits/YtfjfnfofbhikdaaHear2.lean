/- The contract of the reference's Hear. -/
import Derived.Test.YtfjfnfofbhikdaaHear1
namespace Go.Proofs.Ytfjfnfofbhikdaa.Tape
open Go.ChangeShapes Go.WideShapes Go.ChangeAt Go.RowKit

set_option maxRecDepth 100000 in
set_option maxHeartbeats 4000000 in
theorem hear_any (ao : Option Addr) (n cap : Nat) (bs : List Bool) (w : World) (hn : bs.length = n) (hl : n ≤ 1000000) (hcap : n ≤ cap) (hr : Reads w ao (bs.map .bool)) :
    Calls Try.prog 24 #[.slice ao n cap] w fun e w' => ∃ u hs, e = .returned (.tuple #[u, .bool (after ear0 bs).lost]) ∧ hs.map HV.told = eatsAt ear0 0 bs ∧ HRow 61 3 HV.three w.heap.size u hs w' ∧ Below w.heap.size w w' := by
  obtain ⟨i0, hi, hz0, hz1, hz2⟩ := info_parts info61
  have HN : Hid (bs.length = n) := hn
  clear hn
  go_enter Try.func24, Try.ntmps24
  go_wp2
  go_loopw [4, 5, 6, 7, 8] (fun u ls fr on i wr => ∃ (k : Nat) (s : Ear) (F O : Nat) (hs : List HV), k ≤ n ∧ hs.length ≤ k ∧ i = .int .i64 k ∧ ls = .bool s.lost ∧ fr = .int .i64 F ∧ on = .int .i64 O ∧ HRow 61 3 HV.three w.heap.size u hs wr ∧ Below w.heap.size w wr ∧ Like bs k F O s ∧ hs.map HV.told ++ eatsAt s k (bs.drop k) = eatsAt ear0 0 bs ∧ after s (bs.drop k) = after ear0 bs) (fun _ _ _ _ i _ => n - (intOf i).toNat)
  case atStart => exact ⟨0, ear0, 0, 0, [], by omega, by simp, rfl, rfl, rfl, rfl, HRow.nil _ _ _ _ _, Below.refl _ _, like0 bs, by simp, by simp⟩
  case round =>
    obtain ⟨k, s, F, O, hs, hk, hks, rfl, rfl, rfl, rfl, hrow, hbl, hlike, hq1, hq2⟩ := hrel
    have HROW : Hid (HRow 61 3 HV.three w.heap.size u4 hs wr) := hrow
    have HQ1 : Hid (hs.map HV.told ++ eatsAt s k (bs.drop k) = eatsAt ear0 0 bs) := hq1
    have HQ2 : Hid (after s (bs.drop k) = after ear0 bs) := hq2
    have HLK : Hid (Like bs k F O s) := hlike
    have hFk := hlike.from_le
    have hOk := hlike.ones_le
    have hsz := hbl.size
    clear hrow hq1 hq2 hlike
    by_cases hlt : k < n
    · have hkb : k < bs.length := by have := HN.out; omega
      have hr1 := hr.below (Nat.le_refl _) hbl
      obtain ⟨g, off, rfl, hc⟩ := hr1.bool k hkb
      have hd : Hid (bs.drop k = bs[k] :: bs.drop (k + 1)) := drop_cons bs k hkb
      obtain ⟨b, hb⟩ : ∃ b, bs[k] = b := ⟨_, rfl⟩
      have HB : Hid (bs[k] = b) := hb
      rw [hb] at hc hd
      clear hb
      have eF : (k : Int) + 1 - (F : Int) = ((k + 1 - F : Nat) : Int) := by omega
      obtain ⟨D, hD⟩ : ∃ D : Nat, D = k + 1 - F := ⟨_, rfl⟩
      have HD : Hid (D = k + 1 - F) := hD
      rw [← hD] at eF
      have hDk : D ≤ 1000001 := by omega
      clear hD
      cases hlo : s.lost
      · cases b
        · by_cases h6 : O = 6
          · have HS := HLK.out.ends hlo h6 hkb HB.out
            obtain ⟨e1, e2, e3⟩ := HS
            obtain ⟨s2, hs2⟩ : ∃ s2, s2 = (eat s false).1 := ⟨_, rfl⟩
            rw [← hs2] at e1 e2 e3
            have HL2 : Hid (Like bs (k + 1) (k + 1) 0 s2) := e2
            have HX2 : Hid (s2.lost = false) := e3
            by_cases h8 : D ≤ 8
            · have HE : Hid (eat s false = (s2, none)) := by show _ = _; rw [e1, hd_few (by have := HD.out; omega)]
              clear e1 e2 e3 hs2 hr1
              subst h6
              go_wp2
              go_roundw
              case rel => exact ⟨k + 1, s2, k + 1, 0, hs, by omega, by omega, by go_num, by rw [HX2.out], by go_num, by go_num, HROW.out, hbl, HL2.out, at_none HQ1.out hd.out HE.out, aft_any HQ2.out hd.out HE.out⟩
              case measure => simp [intOf]; omega
            · obtain ⟨m, hm⟩ : ∃ m, D = m + 8 := ⟨D - 8, by omega⟩
              obtain ⟨J, hJ⟩ : ∃ J, jdg ((bs.drop F).take m) = J := ⟨_, rfl⟩
              have HE0 : Hid (eat s false = (s2, if J.2 = 0 then some (0, J.1) else some (1, []))) := by show _ = _; rw [e1, hd_many hkb (by have := HD.out; omega) (by omega) hJ]
              have HJ : Hid (jdg ((bs.drop F).take m) = J) := hJ
              have HT : Hid (((bs.drop F).take m).length = m) := by show _ = _; rw [List.length_take, List.length_drop]; have := HD.out; omega
              have hrd : Reads wr (some ⟨g, off + F, none⟩) (((bs.drop F).take m).map .bool) := by
                have := (hr1.drop F).take m
                rwa [← List.map_drop, ← List.map_take] at this
              have hkl := HLK.out.kept_len (Nat.le_of_lt hkb) hlo
              have hkf := HLK.out.fine.kept
              have hkr := HLK.out.fine.run
              have hmm : m ≤ 3000 := by have := HD.out; omega
              obtain ⟨q, hq⟩ : ∃ q : Nat, (k : Int) - 7 = (q : Int) := ⟨k - 7, by have := HD.out; omega⟩
              have hqF : F ≤ q := by have := HD.out; omega
              have hqm : q - F = m := by have := HD.out; omega
              have hqn : q ≤ cap := by omega
              have hql : q ≤ n := by omega
              have hFc : ¬ cap = F := by omega
              clear e1 e2 e3 hs2 hr1 hJ hm hkl hkf hkr
              subst h6
              go_wp2_with fail
              refine (rjudge_any _ _ _ _ J _ HT.out (by omega) HJ.out hrd).mono ?_
              obtain ⟨ys, E⟩ := J
              rintro e w2 ⟨vo, m2, ca, rfl, hm2, hmc, hrb, hli, hvn, hb2⟩
              have HB2 : Hid (Below wr.heap.size wr w2) := hb2
              have hrow2 := (HROW.out.below hb2).row
              have hsz2 := hb2.size
              by_cases hE : E = 0
              · subst hE
                have hx : Hid (HV.Ok w2 ⟨0, ys, k + 1, vo, m2, ca⟩) := HV.Ok.mk hm2 hmc hrb hvn
                have HLI : Hid (Lies w2 wr.heap.size vo) := hli
                have HE : Hid (eat s false = (s2, some (0, ys))) := by have := HE0.out; rw [if_pos rfl] at this; exact this
                clear hm2 hmc hrb hli hvn hb2 hrd HJ HE0
                go_wp2_with (at_builtin; refine wpList_append_lies _ rfl _ _ 51 rfl w.heap.size 61 i0 _ 3 40 Try.underlying51 hi hz0 hz1 hz2 rfl (by decide) u4 hs.length (hs.flatMap HV.three) rfl (hrow2.alloc _) ⟨w2.heap.size, 0, none⟩ 1 1 [.int .u8 0, .slice vo m2 ca, .int .i64 ((k : Int) + 1)] rfl rfl (news_three _ _ _ _ _) (by simp [Value.oneCell']) (by omega) (by unfold maxLen; omega) (by omega) (by simp; omega) (w2.heap.size + 1) (by simp) ?_; intro g' cap' w3 hown3 hgrow3 hat3 hlt3; obtain ⟨k1, k2⟩ := ref_some (x := ⟨0, ys, k + 1, vo, m2, ca⟩) HROW.out hbl HB2.out hx.out HLI.out hown3 hgrow3 hat3; clear hown3 hgrow3 hat3)
                go_roundw
                case rel => exact ⟨k + 1, s2, k + 1, 0, hs ++ [⟨0, ys, k + 1, vo, m2, ca⟩], by omega, by simp; omega, by go_num, by rw [HX2.out], by go_num, by go_num, k1, k2, HL2.out, by rw [List.map_append]; exact at_some HQ1.out hd.out HE.out, aft_any HQ2.out hd.out HE.out⟩
                case measure => simp [intOf]; omega
              · have hE' : ((E : Int) == 0) = false := by rw [beq_eq_false_iff_ne]; omega
                have hx : Hid (HV.Ok w2 ⟨1, [], k + 1, none, 0, 0⟩) := HV.Ok.mk rfl (Nat.le_refl _) (Reads.nil _ _) (fun _ => rfl)
                have HLI : Hid (Lies w2 wr.heap.size none) := Lies.none _ _
                have HE : Hid (eat s false = (s2, some (1, []))) := by have := HE0.out; rw [if_neg hE] at this; exact this
                clear hm2 hmc hrb hli hvn hb2 hrd HJ HE0
                go_wp2_with (at_builtin; refine wpList_append_lies _ rfl _ _ 51 rfl w.heap.size 61 i0 _ 3 40 Try.underlying51 hi hz0 hz1 hz2 rfl (by decide) u4 hs.length (hs.flatMap HV.three) rfl (hrow2.alloc _) ⟨w2.heap.size, 0, none⟩ 1 1 [.int .u8 1, .slice none 0 0, .int .i64 ((k : Int) + 1)] rfl rfl (news_three _ _ _ _ _) (by simp [Value.oneCell']) (by omega) (by unfold maxLen; omega) (by omega) (by simp; omega) (w2.heap.size + 1) (by simp) ?_; intro g' cap' w3 hown3 hgrow3 hat3 hlt3; obtain ⟨k1, k2⟩ := ref_some (x := ⟨1, [], k + 1, none, 0, 0⟩) HROW.out hbl HB2.out hx.out HLI.out hown3 hgrow3 hat3; clear hown3 hgrow3 hat3)
                go_roundw
                case rel => exact ⟨k + 1, s2, k + 1, 0, hs ++ [⟨1, [], k + 1, none, 0, 0⟩], by omega, by simp; omega, by go_num, by rw [HX2.out], by go_num, by go_num, k1, k2, HL2.out, by rw [List.map_append]; exact at_some HQ1.out hd.out HE.out, aft_any HQ2.out hd.out HE.out⟩
                case measure => simp [intOf]; omega
          · have b6 : ((O : Int) == 6) = false := by rw [beq_eq_false_iff_ne]; omega
            by_cases hla : 2687 < D
            · have HS := HLK.out.late hlo h6 hkb (by have := HD.out; omega)
              obtain ⟨e1, e2, e3⟩ := HS
              obtain ⟨s2, hs2⟩ : ∃ s2, s2 = (eat s false).1 := ⟨_, rfl⟩
              rw [← hs2] at e1 e2 e3
              have HE : Hid (eat s false = (s2, none)) := e1
              have HL2 : Hid (Like bs (k + 1) (k + 1) 0 s2) := e2
              have HX2 : Hid (s2.lost = true) := e3
              clear e1 e2 e3 hs2
              clear hr1
              go_wp2
              go_roundw
              case rel => exact ⟨k + 1, s2, k + 1, 0, hs, by omega, by omega, by go_num, by rw [HX2.out], by go_num, by go_num, HROW.out, hbl, HL2.out, at_none HQ1.out hd.out HE.out, aft_any HQ2.out hd.out HE.out⟩
              case measure => simp [intOf]; omega
            · have HS := HLK.out.nought hlo h6 hkb HB.out (by have := HD.out; omega)
              obtain ⟨e1, e2, e3⟩ := HS
              obtain ⟨s2, hs2⟩ : ∃ s2, s2 = (eat s false).1 := ⟨_, rfl⟩
              rw [← hs2] at e1 e2 e3
              have HE : Hid (eat s false = (s2, none)) := e1
              have HL2 : Hid (Like bs (k + 1) F 0 s2) := e2
              have HX2 : Hid (s2.lost = false) := e3
              clear e1 e2 e3 hs2
              clear hr1
              go_wp2
              go_roundw
              case rel => exact ⟨k + 1, s2, F, 0, hs, by omega, by omega, by go_num, by rw [HX2.out], by go_num, by go_num, HROW.out, hbl, HL2.out, at_none HQ1.out hd.out HE.out, aft_any HQ2.out hd.out HE.out⟩
              case measure => simp [intOf]; omega
        · by_cases h7 : O + 1 = 7
          · have HS := HLK.out.seven hlo h7
            obtain ⟨e1, e2, e3⟩ := HS
            obtain ⟨s2, hs2⟩ : ∃ s2, s2 = (eat s true).1 := ⟨_, rfl⟩
            rw [← hs2] at e1 e2 e3
            have HE : Hid (eat s true = (s2, none)) := e1
            have HL2 : Hid (Like bs (k + 1) (k + 1) (O + 1) s2) := e2
            have HX2 : Hid (s2.lost = true) := e3
            clear e1 e2 e3 hs2
            clear hr1
            have h7' : (O : Int) + 1 = 7 := by omega
            go_wp2
            go_roundw
            case rel => exact ⟨k + 1, s2, k + 1, O + 1, hs, by omega, by omega, by go_num, by rw [HX2.out], by go_num, by go_num, HROW.out, hbl, HL2.out, at_none HQ1.out hd.out HE.out, aft_any HQ2.out hd.out HE.out⟩
            case measure => simp [intOf]; omega
          · have HS := HLK.out.one hlo h7 hkb HB.out
            obtain ⟨e1, e2, e3⟩ := HS
            obtain ⟨s2, hs2⟩ : ∃ s2, s2 = (eat s true).1 := ⟨_, rfl⟩
            rw [← hs2] at e1 e2 e3
            have HE : Hid (eat s true = (s2, none)) := e1
            have HL2 : Hid (Like bs (k + 1) F (O + 1) s2) := e2
            have HX2 : Hid (s2.lost = false) := e3
            clear e1 e2 e3 hs2
            clear hr1
            have b7 : ((O : Int) + 1 == 7) = false := by rw [beq_eq_false_iff_ne]; omega
            go_wp2
            go_roundw
            case rel => exact ⟨k + 1, s2, F, O + 1, hs, by omega, by omega, by go_num, by rw [HX2.out], by go_num, by go_num, HROW.out, hbl, HL2.out, at_none HQ1.out hd.out HE.out, aft_any HQ2.out hd.out HE.out⟩
            case measure => simp [intOf]; omega
      · have hDc : D ≤ 128 := by have := HLK.out.lost hlo; have := HLK.out.fine.cnt; have := HD.out; omega
        cases b
        · by_cases h6 : O = 6
          · have HS := HLK.out.flag hlo h6
            obtain ⟨e1, e2, e3⟩ := HS
            obtain ⟨s2, hs2⟩ : ∃ s2, s2 = (eat s false).1 := ⟨_, rfl⟩
            rw [← hs2] at e1 e2 e3
            have HE : Hid (eat s false = (s2, none)) := e1
            have HL2 : Hid (Like bs (k + 1) (k + 1) 0 s2) := e2
            have HX2 : Hid (s2.lost = false) := e3
            clear e1 e2 e3 hs2
            clear hr1
            subst h6
            go_wp2
            go_roundw
            case rel => exact ⟨k + 1, s2, k + 1, 0, hs, by omega, by omega, by go_num, by rw [HX2.out], by go_num, by go_num, HROW.out, hbl, HL2.out, at_none HQ1.out hd.out HE.out, aft_any HQ2.out hd.out HE.out⟩
            case measure => simp [intOf]; omega
          · have b6 : ((O : Int) == 6) = false := by rw [beq_eq_false_iff_ne]; omega
            by_cases hD8 : D = 128
            · have HS := HLK.out.block (b := false) (O' := 0) hlo (fun _ => h6) rfl (by have := HD.out; omega)
              obtain ⟨e1, e2, e3⟩ := HS
              obtain ⟨s2, hs2⟩ : ∃ s2, s2 = (eat s false).1 := ⟨_, rfl⟩
              rw [← hs2] at e1 e2 e3
              have HE : Hid (eat s false = (s2, some (2, []))) := e1
              have HL2 : Hid (Like bs (k + 1) (k + 1) 0 s2) := e2
              have HX2 : Hid (s2.lost = true) := e3
              clear e1 e2 e3 hs2
              clear hr1
              have HB2 : Hid (Below wr.heap.size wr wr) := Below.refl _ _
              have hrow2 := HROW.out.row
              have hx : Hid (HV.Ok wr ⟨2, [], k + 1, none, 0, 0⟩) := HV.Ok.mk rfl (Nat.le_refl _) (Reads.nil _ _) (fun _ => rfl)
              have HLI : Hid (Lies wr wr.heap.size none) := Lies.none _ _
              subst hD8
              go_wp2_with (at_builtin; refine wpList_append_lies _ rfl _ _ 51 rfl w.heap.size 61 i0 _ 3 40 Try.underlying51 hi hz0 hz1 hz2 rfl (by decide) u4 hs.length (hs.flatMap HV.three) rfl (hrow2.alloc _) ⟨wr.heap.size, 0, none⟩ 1 1 [.int .u8 2, .slice none 0 0, .int .i64 ((k : Int) + 1)] rfl rfl (news_three _ _ _ _ _) (by simp [Value.oneCell']) (by omega) (by unfold maxLen; omega) (by omega) (by simp; omega) (wr.heap.size + 1) (by simp) ?_; intro g' cap' w3 hown3 hgrow3 hat3 hlt3; obtain ⟨k1, k2⟩ := ref_some (x := ⟨2, [], k + 1, none, 0, 0⟩) HROW.out hbl HB2.out hx.out HLI.out hown3 hgrow3 hat3; clear hown3 hgrow3 hat3)
              go_roundw
              case rel => exact ⟨k + 1, s2, k + 1, 0, hs ++ [⟨2, [], k + 1, none, 0, 0⟩], by omega, by simp; omega, by go_num, by rw [HX2.out], by go_num, by go_num, k1, k2, HL2.out, by rw [List.map_append]; exact at_some HQ1.out hd.out HE.out, aft_any HQ2.out hd.out HE.out⟩
              case measure => simp [intOf]; omega
            · have HS := HLK.out.cnt (b := false) (O' := 0) hlo (fun _ => h6) rfl (by have := HD.out; omega)
              obtain ⟨e1, e2, e3⟩ := HS
              obtain ⟨s2, hs2⟩ : ∃ s2, s2 = (eat s false).1 := ⟨_, rfl⟩
              rw [← hs2] at e1 e2 e3
              have HE : Hid (eat s false = (s2, none)) := e1
              have HL2 : Hid (Like bs (k + 1) F 0 s2) := e2
              have HX2 : Hid (s2.lost = true) := e3
              clear e1 e2 e3 hs2
              clear hr1
              have b8 : ((D : Int) == 128) = false := by rw [beq_eq_false_iff_ne]; omega
              go_wp2
              go_roundw
              case rel => exact ⟨k + 1, s2, F, 0, hs, by omega, by omega, by go_num, by rw [HX2.out], by go_num, by go_num, HROW.out, hbl, HL2.out, at_none HQ1.out hd.out HE.out, aft_any HQ2.out hd.out HE.out⟩
              case measure => simp [intOf]; omega
        · by_cases hD8 : D = 128
          · have HS := HLK.out.block (b := true) (O' := O + 1) hlo (by simp) rfl (by have := HD.out; omega)
            obtain ⟨e1, e2, e3⟩ := HS
            obtain ⟨s2, hs2⟩ : ∃ s2, s2 = (eat s true).1 := ⟨_, rfl⟩
            rw [← hs2] at e1 e2 e3
            have HE : Hid (eat s true = (s2, some (2, []))) := e1
            have HL2 : Hid (Like bs (k + 1) (k + 1) (O + 1) s2) := e2
            have HX2 : Hid (s2.lost = true) := e3
            clear e1 e2 e3 hs2
            clear hr1
            have HB2 : Hid (Below wr.heap.size wr wr) := Below.refl _ _
            have hrow2 := HROW.out.row
            have hx : Hid (HV.Ok wr ⟨2, [], k + 1, none, 0, 0⟩) := HV.Ok.mk rfl (Nat.le_refl _) (Reads.nil _ _) (fun _ => rfl)
            have HLI : Hid (Lies wr wr.heap.size none) := Lies.none _ _
            subst hD8
            go_wp2_with (at_builtin; refine wpList_append_lies _ rfl _ _ 51 rfl w.heap.size 61 i0 _ 3 40 Try.underlying51 hi hz0 hz1 hz2 rfl (by decide) u4 hs.length (hs.flatMap HV.three) rfl (hrow2.alloc _) ⟨wr.heap.size, 0, none⟩ 1 1 [.int .u8 2, .slice none 0 0, .int .i64 ((k : Int) + 1)] rfl rfl (news_three _ _ _ _ _) (by simp [Value.oneCell']) (by omega) (by unfold maxLen; omega) (by omega) (by simp; omega) (wr.heap.size + 1) (by simp) ?_; intro g' cap' w3 hown3 hgrow3 hat3 hlt3; obtain ⟨k1, k2⟩ := ref_some (x := ⟨2, [], k + 1, none, 0, 0⟩) HROW.out hbl HB2.out hx.out HLI.out hown3 hgrow3 hat3; clear hown3 hgrow3 hat3)
            go_roundw
            case rel => exact ⟨k + 1, s2, k + 1, O + 1, hs ++ [⟨2, [], k + 1, none, 0, 0⟩], by omega, by simp; omega, by go_num, by rw [HX2.out], by go_num, by go_num, k1, k2, HL2.out, by rw [List.map_append]; exact at_some HQ1.out hd.out HE.out, aft_any HQ2.out hd.out HE.out⟩
            case measure => simp [intOf]; omega
          · have HS := HLK.out.cnt (b := true) (O' := O + 1) hlo (by simp) rfl (by have := HD.out; omega)
            obtain ⟨e1, e2, e3⟩ := HS
            obtain ⟨s2, hs2⟩ : ∃ s2, s2 = (eat s true).1 := ⟨_, rfl⟩
            rw [← hs2] at e1 e2 e3
            have HE : Hid (eat s true = (s2, none)) := e1
            have HL2 : Hid (Like bs (k + 1) F (O + 1) s2) := e2
            have HX2 : Hid (s2.lost = true) := e3
            clear e1 e2 e3 hs2
            clear hr1
            have b8 : ((D : Int) == 128) = false := by rw [beq_eq_false_iff_ne]; omega
            go_wp2
            go_roundw
            case rel => exact ⟨k + 1, s2, F, O + 1, hs, by omega, by omega, by go_num, by rw [HX2.out], by go_num, by go_num, HROW.out, hbl, HL2.out, at_none HQ1.out hd.out HE.out, aft_any HQ2.out hd.out HE.out⟩
            case measure => simp [intOf]; omega
    · have hE1 : Hid (hs.map HV.told = eatsAt ear0 0 bs) := by
        show _ = _
        have := HQ1.out
        rw [List.drop_eq_nil_of_le (by have := HN.out; omega), eatsAt, List.append_nil] at this
        exact this
      have hE2 : Hid (s = after ear0 bs) := by
        show _ = _
        have := HQ2.out
        rw [List.drop_eq_nil_of_le (by have := HN.out; omega), after] at this
        exact this
      generalize hlo : s.lost = lo
      have HLO : Hid (s.lost = lo) := hlo
      clear hlo
      go_wp2
      go_ret2
      exact ⟨u4, hs, by rw [← hE2.out, HLO.out]; rfl, hE1.out, HROW.out, hbl⟩
end Go.Proofs.Ytfjfnfofbhikdaa.Tape
