/- The walk of the law ClockPlays. -/
import Derived.Test.YtjepgdpnhoolcaaBoth
import Derived.Deep.QuietTactic
import Derived.BigQuiet
import Derived.Deep.CutBlock
namespace Go.Proofs.Ytjepgdpnhoolcaa.Tape
open Go.ChangeShapes Go.WideShapes Go.ChangeAt Go.RowKit

set_option maxRecDepth 100000 in
set_option maxHeartbeats 1000000 in
theorem plays_long (ao : Option Addr) (n cap : Nat) (w : World) (hm : n ≤ maxLen) (hl : 80 < n) :
    Calls Try.prog 3 #[.slice ao n cap] w fun e w' => e = .returned (.bool true) ∧ Below w.heap.size w w' := by
  unfold maxLen at hm
  go_enter Try.func3, Try.ntmps3
  go_wp2_with fail
  refine (awake7_any _).mono ?_
  rintro e w1 ⟨rfl, hb1⟩
  go_wp2_with fail
  refine (awake7_any _).mono ?_
  rintro e w2 ⟨rfl, hb2⟩
  go_wp2
  go_ret
  exact ⟨rfl, hb1.trans (hb2.mono hb1.size)⟩

set_option maxRecDepth 100000 in
set_option maxHeartbeats 4000000 in
theorem plays_short (ao : Option Addr) (n cap : Nat) (w : World) (hl : n ≤ 80) (ha : Acts w ao n) :
    Calls Try.prog 3 #[.slice ao n cap] w fun e w' => e = .returned (.bool true) ∧ Below w.heap.size w w' := by
  obtain ⟨i0, hi, hz0, hz1, hz2⟩ := info_parts info3
  go_enter Try.func3, Try.ntmps3
  go_wp2_with fail
  refine (awake7_any _).mono ?_
  rintro e w1 ⟨rfl, hb1⟩
  have hc : ClockAt (w1.alloc (.cells #[.int .i64 0, .int .i64 0, .int .i64 0, .int .i64 0, .int .i64 0, .int .i64 0, .int .i64 0, .int .i64 0] 27)) w1.heap.size (List.replicate 8 0) := clock_new w1
  have hB := hb1.alloc hb1.size (.cells #[.int .i64 0, .int .i64 0, .int .i64 0, .int .i64 0, .int .i64 0, .int .i64 0, .int .i64 0, .int .i64 0] 27)
  have hsz1 := hb1.size
  have hse : (w1.alloc (.cells #[.int .i64 0, .int .i64 0, .int .i64 0, .int .i64 0, .int .i64 0, .int .i64 0, .int .i64 0, .int .i64 0] 27)).heap.size = w1.heap.size + 1 := by simp
  go_wp2_with (at_make; refine wpList_make_full _ rfl _ _ 28 rfl (w1.heap.size + 1) 3 i0 (.int .i64 0) 1 Try.underlying28 hi hz0 hz1 _ _ _ _ 8 rfl rfl (by omega) (by omega) (by rw [hz2]; omega) (by unfold maxLen; omega) (by simp) ?_; intro w2 hown2 hgrow2)
  rw [hse] at hown2
  have e80 : decide ((80 : Int) < (n : Int)) = false := decide_eq_false (by omega)
  rw [e80]
  clear e80
  have hm2 : w2.ownsRow (w1.heap.size + 1) 3 1 (.slice (some ⟨w1.heap.size + 1, 0, none⟩) 8 8) 8 ((List.replicate 8 (0 : Int)).map (.int .i64)) := by
    have := hown2
    rw [Nat.mul_one, show (Value.int IntKind.i64 0).cells = #[.int .i64 0] from rfl, toList_madeCells_one] at this
    rw [List.map_replicate]; exact this
  have hB2 : Below w.heap.size w w2 := hB.grown hgrow2 (by rw [hse]; omega) (by simp)
  have hc2 : ClockAt w2 w1.heap.size (List.replicate 8 0) := hc.at_ (hgrow2.block _ (by rw [hse]; omega) (by simp))
  have hbo : Both w2 w1.heap.size (w1.heap.size + 1) (List.replicate 8 0) := ⟨hc2, hm2, by simp⟩
  generalize w1.heap.size = b at *
  clear hc hB hse hown2 hgrow2 hm2 hc2 hb1
  go_loopw [4, 5] (fun t i wr => ∃ (k g : Nat) (xs : List Int), k ≤ n ∧ i = .int .i64 k ∧ t = .slice (some ⟨g, 0, none⟩) 8 8 ∧ Both wr b g xs ∧ Below w.heap.size w wr) (fun _ i _ => n - (intOf i).toNat)
  case atStart => exact ⟨0, b + 1, _, by omega, rfl, rfl, hbo, hB2⟩
  case round =>
    clear hbo hB2
    obtain ⟨k, g, xs, hk, rfl, rfl, hbo, hB⟩ := hrel
    by_cases hlt : k < n
    · obtain ⟨ga, off, rfl, K, X, M, a0, a1, a2, hK0, hK1⟩ := (ha.below hB) k hlt
      obtain ⟨A, hA⟩ : ∃ A, X.tmod 10 = A := ⟨_, rfl⟩
      obtain ⟨T, hT⟩ : ∃ T, M.tmod 12 = T := ⟨_, rfl⟩
      obtain ⟨q, hq⟩ : ∃ q, K % 10 = q := ⟨_, rfl⟩
      have hA0 : -9 ≤ A ∧ A ≤ 9 := by rw [← hA, Int.tmod_eq_emod]; split <;> omega
      have hT0 : -11 ≤ T ∧ T ≤ 11 := by rw [← hT, Int.tmod_eq_emod]; split <;> omega
      obtain ⟨hAl, hAu⟩ := hA0
      obtain ⟨hTl, hTu⟩ := hT0
      have hq0 : 0 ≤ q := by omega
      have hbW := (Below.refl wr.heap.size wr).alloc (Nat.le_refl _) (.cells #[.int .u8 K, .int .i64 X, .int .i64 M] 30)
      have hboW := hbo.keep hbW
      have hBW := hB.trans (hbW.mono hB.size)
      go_upto_block 2 with fail
      obtain ⟨W, hW⟩ : ∃ W, W = wr.alloc (.cells #[.int .u8 K, .int .i64 X, .int .i64 M] 30) := ⟨_, rfl⟩
      rw [← hW] at hboW hBW
      rw [← hW, hq]
      clear hW hA hT hq hbW hbo hB a0 a1 a2
      go_cut [4] from 30 to 213 (fun t wc => ∃ (g : Nat) (xs : List Int), t = .slice (some ⟨g, 0, none⟩) 8 8 ∧ Both wc b g xs ∧ Below w.heap.size w wc)
      case first =>
        by_cases hq3 : q < 3
        · by_cases hok : 0 ≤ A ∧ A < 8 ∧ 0 < T
          · as_aux_lemma =>
              obtain ⟨o1, o2, o3⟩ := hok
              obtain ⟨m, rfl⟩ : ∃ m : Nat, A = (m : Int) := ⟨A.toNat, by omega⟩
              have hm8 : m < 8 := by omega
              have hst := start_ok b xs m T W hboW.clock hm8 (by omega) (by omega)
              go_wp2_with (go_at_call 12; refine hst.mono ?_; rintro e w3 ⟨rfl, hw3⟩; have hr3 : Row w3 b g xs := (by rw [hw3]; exact hboW.row.off _ _); have hc3 : ClockAt w3 b (xs.set m T) := (by rw [hw3]; exact hboW.clock.set m T (by omega)); have hB3 : Below w.heap.size w w3 := (by rw [hw3]; exact hBW.setCell (show w.heap.size ≤ b from hsz1) _); clear hw3; obtain ⟨c3, z3⟩ := hr3.cell m hm8)
              go_meet
              case rel => exact ⟨g, xs.set m T, rfl, ⟨hc3.row hr3 m _, hr3.set m T, few_set hboW.few m T hTu⟩, hB3.setCell (show w.heap.size ≤ g by have := hr3.far; omega) _⟩
          · as_aux_lemma =>
              have hst := start_bad b A T W (by omega)
              have hcase : A < 0 ∨ (0 ≤ A ∧ ¬ A < 8) ∨ (0 ≤ A ∧ A < 8 ∧ ¬ 0 < T) := by omega
              clear hok
              rcases hcase with o1 | ⟨o1, o2⟩ | ⟨o1, o2, o3⟩
              all_goals
                go_wp2_with (go_at_call 12; refine hst.mono ?_; rintro e w3 ⟨rfl, hw3⟩; obtain rfl := hw3.symm; clear hw3)
                go_meet
                case rel => exact ⟨g, xs, rfl, hboW, hBW⟩
        · by_cases hq4 : q = 3
          · as_aux_lemma =>
              subst hq4
              have hr1 := two_reads W A (A + 1)
              have hbS := (Below.refl W.heap.size W).alloc (Nat.le_refl _) (.cells #[.int .i64 A, .int .i64 (A + 1)] 3)
              have hcS := hboW.clock.keep hbS
              have hrS := hboW.row.keep hbS
              have hBS := hBW.trans (hbS.mono hBW.size)
              have hszS : (W.alloc (.cells #[.int .i64 A, .int .i64 (A + 1)] 3)).heap.size = W.heap.size + 1 := by simp
              have hbl := hboW.clock.lt
              have hfe := few_stps hboW.few [A, A + 1]
              have hsto := stop_any b 2 2 _ xs [A, A + 1] _ hcS rfl (by omega) hr1 (fun x hx => by cases hx; exact ⟨by rw [hszS]; simp, by simp; omega⟩)
              go_wp2_with (go_at_call 13; refine hsto.mono ?_; rintro e w3 ⟨rfl, hc3, hg3⟩; have hr3 := hrS.clock hg3; have hB3 : Below w.heap.size w w3 := hBS.grown hg3 hBS.size (by simp; omega); clear hcS hrS hBS hg3 hsto hr1)
              have hr4 := two_reads w3 A (A + 1)
              have hb4 := (Below.refl w3.heap.size w3).alloc (Nat.le_refl _) (.cells #[.int .i64 A, .int .i64 (A + 1)] 3)
              have hc4 := hc3.keep hb4
              have hro4 := hr3.keep hb4
              have hB4 := hB3.trans (hb4.mono hB3.size)
              have hgl := hr3.far
              clear hc3 hr3 hB3 hb4 hbS hszS hboW hBW
              go_loopw [137] (fun i wx => ∃ (j : Nat) (ys : List Int), j ≤ 2 ∧ i = .int .i64 j ∧ ([A, A + 1].drop j).foldl stp ys = [A, A + 1].foldl stp xs ∧ ClockAt wx b ([A, A + 1].foldl stp xs) ∧ Row wx b g ys ∧ Reads wx (some ⟨w3.heap.size, 0, none⟩) ([A, A + 1].map (.int .i64)) ∧ Below w.heap.size w wx) (fun i _ => 2 - (intOf i).toNat)
              case atStart => exact ⟨0, xs, by omega, rfl, rfl, hc4, hro4, hr4, hB4⟩
              case round =>
                clear hc4 hro4 hr4 hB4
                obtain ⟨j, ys, hj, rfl, hfo, hcx, hrx, hre, hBx⟩ := hrel
                by_cases hj2 : j < 2
                · have hjl : j < [A, A + 1].length := by simpa using hj2
                  obtain ⟨g', off', e', hcell⟩ := hre j (.int .i64 [A, A + 1][j]) (by rw [List.getElem?_map, List.getElem?_eq_getElem hjl]; rfl)
                  simp only [Option.some.injEq, Addr.mk.injEq, and_true] at e'
                  obtain ⟨rfl, rfl⟩ := e'
                  rw [Nat.zero_add] at hcell
                  have hlw : w3.heap.size < wr.heap.size := World.block_lt_of_cell? wr ⟨w3.heap.size, j, none⟩ hcell
                  rw [List.drop_eq_getElem_cons hjl, List.foldl_cons] at hfo
                  generalize [A, A + 1][j] = y at hfo hcell
                  have HF : Hid (([A, A + 1].drop (j + 1)).foldl stp (stp ys y) = [A, A + 1].foldl stp xs) := hfo
                  have HC : Hid (ClockAt wr b ([A, A + 1].foldl stp xs)) := hcx
                  have HR : Hid (Reads wr (some ⟨w3.heap.size, 0, none⟩) ([A, A + 1].map (.int .i64))) := hre
                  clear hfo hcx hre
                  by_cases hy : 0 ≤ y ∧ y < 8
                  · obtain ⟨m, rfl⟩ : ∃ m : Nat, y = (m : Int) := ⟨y.toNat, by omega⟩
                    have hm8 : m < 8 := by omega
                    have HS : Hid (stp ys m = ys.set m 0) := by show _ = _; unfold stp; rw [if_pos hy]; simp
                    obtain ⟨c3, z3⟩ := hrx.cell m hm8
                    clear hy
                    go_wp2
                    go_roundw
                    case rel => exact ⟨j + 1, ys.set m 0, by omega, by go_num, by rw [← HF.out, HS.out], HC.out.row hrx m _, hrx.set m 0, gb_reads (b := g) (fun x hx => by cases hx; exact ⟨hlw, show w3.heap.size ≠ g by omega⟩) (gb_set _) HR.out, hBx.setCell (show w.heap.size ≤ g by omega) _⟩
                    case measure => simp [intOf]; omega
                  · have HS : Hid (stp ys y = ys) := by show _ = _; unfold stp; rw [if_neg hy]
                    have hyc : y < 0 ∨ (0 ≤ y ∧ ¬ y < 8) := by omega
                    clear hy
                    rcases hyc with y0 | ⟨y0, y1⟩
                    all_goals
                      go_wp2
                      go_roundw
                      case rel => exact ⟨j + 1, ys, by omega, by go_num, by rw [← HF.out, HS.out], HC.out, hrx, HR.out, hBx⟩
                      case measure => simp [intOf]; omega
                · obtain rfl : j = 2 := by omega
                  have HF : Hid (ys = [A, A + 1].foldl stp xs) := hfo
                  clear hfo
                  go_wp2
                  go_meet
                  case rel => exact ⟨g, ys, rfl, ⟨by rw [HF.out]; exact hcx, hrx, by rw [HF.out]; exact hfe⟩, hBx⟩
          · by_cases hq5 : q = 4
            · as_aux_lemma =>
                subst hq5
                have hcl := clear_any b xs W hboW.clock
                have hr := hboW.row
                go_wp2_with (first
                  | (go_at_call 14; refine hcl.mono ?_; rintro e w3 ⟨rfl, hc3, hg3⟩; have hB3 : Below w.heap.size w w3 := hBW.grown hg3 hBW.size (by simp; omega); have hsz3 := hc3.lt; clear hg3)
                  | (at_make; refine wpList_make_full _ rfl _ _ 28 rfl (b + 1) 3 i0 (.int .i64 0) 1 Try.underlying28 hi hz0 hz1 _ _ _ _ 8 rfl rfl (by omega) (by omega) (by rw [hz2]; omega) (by unfold maxLen; omega) (by omega) ?_; intro w4 hown4 hgrow4))
                have hm4 : Row w4 b w3.heap.size (List.replicate 8 0) := by
                  have := hown4
                  rw [Nat.mul_one, show (Value.int IntKind.i64 0).cells = #[.int .i64 0] from rfl, toList_madeCells_one] at this
                  unfold Row
                  rw [List.map_replicate]; exact this
                have hB4 : Below w.heap.size w w4 := hB3.grown hgrow4 hB3.size (by simp)
                have hc4 : ClockAt w4 b (List.replicate 8 0) := hc3.at_ (hgrow4.block _ hsz3 (by simp))
                clear hown4 hgrow4 hc3 hB3
                go_wp2
                go_meet
                case rel => exact ⟨w3.heap.size, List.replicate 8 0, rfl, ⟨hc4, hm4, few_zero⟩, hB4⟩
            · as_aux_lemma =>
                have htk := tick_any b xs W hboW.clock
                have hr := hboW.row
                have hfe := few_tk hboW.few
                have HX : Hid (xs.length = 8) := hboW.clock.len
                have HO : Hid (∀ x ∈ xs, 0 ≤ x ∧ x ≤ 4294967296) := hboW.clock.ok
                go_wp2_with (go_at_call 15; refine htk.mono ?_; rintro e w3 ⟨v3, rfl, hown3, hc3, hg3⟩; have hr3 := hr.clock hg3; have hB3 : Below w.heap.size w w3 := hBW.grown hg3 hBW.size (by simp; omega); obtain ⟨vo, cv, rfl, hcv, hrv, -⟩ := owns_form hown3; have hli := owns_lies hown3)
                obtain ⟨L, hL⟩ : ∃ L, (outs 0 xs).length = L := ⟨_, rfl⟩
                have hL8 := outs_len 0 xs
                rw [hL] at hcv hL8
                rw [hL]
                have HL : Hid ((outs 0 xs).length = L) := hL
                have hL9 : L ≤ 8 := by have := HX.out; omega
                have hgl := hr.far
                clear hown3 hg3 htk hr hboW hBW hL hL8
                go_loopw [15, 16] (fun m i wx => ∃ (j c : Nat) (ys : List Int), j ≤ 8 ∧ i = .int .i64 j ∧ m = .int .i64 c ∧ c ≤ L ∧ (outs 0 xs).drop c = outs j (xs.drop j) ∧ ys.take j = (xs.take j).map tk ∧ ys.drop j = xs.drop j ∧ ClockAt wx b (xs.map tk) ∧ Row wx b g ys ∧ Reads wx vo (nums (outs 0 xs)) ∧ Lies wx W.heap.size vo ∧ Below w.heap.size w wx) (fun _ i _ => 8 - (intOf i).toNat)
                case atStart => exact ⟨0, 0, xs, by omega, rfl, rfl, by omega, rfl, by simp, rfl, hc3, hr3, hrv, hli, hB3⟩
                case round =>
                  clear hc3 hr3 hrv hli hB3
                  obtain ⟨j, c, ys, hj, rfl, rfl, hcL, hou, hta, hdr, hcx, hrx, hrv, hli, hBx⟩ := hrel
                  by_cases hj8 : j < 8
                  · have hjl : j < xs.length := by have := HX.out; omega
                    obtain ⟨c0, z0⟩ := hrx.cell j hj8
                    have hyl := hrx.len
                    have hyj : ys.getD j 0 = xs[j] := by
                      have h := congrArg (fun l => l.getD 0 0) hdr
                      simp [List.getD, hjl, show j < ys.length by omega] at h
                      simp [List.getD, h, show j < ys.length by omega]
                    rw [hyj] at c0
                    obtain ⟨s1, s2⟩ := tk_step hj8 HX.out hyl hta hdr
                    have hxb := HO.out _ (List.getElem_mem hjl)
                    obtain ⟨u1, u2⟩ := out_step hjl hou
                    have hgx : xs.getD j 0 = xs[j] := by simp [List.getD, hjl]
                    rw [hgx] at s1 s2
                    generalize xs[j] = x at *
                    obtain ⟨x0, x1⟩ := hxb
                    have HS1 : Hid ((ys.set j (tk x)).take (j + 1) = (xs.take (j + 1)).map tk) := s1
                    have HS2 : Hid ((ys.set j (tk x)).drop (j + 1) = xs.drop (j + 1)) := s2
                    have HU1 : Hid (x = 1 → (outs 0 xs)[c]? = some j ∧ (outs 0 xs).drop (c + 1) = outs (j + 1) (xs.drop (j + 1))) := u1
                    have HU2 : Hid (x ≠ 1 → (outs 0 xs).drop c = outs (j + 1) (xs.drop (j + 1))) := u2
                    have HZ : Hid (ys.getD j 0 = x) := hyj
                    have HYL : Hid (ys.length = 8) := hyl
                    have HC : Hid (ClockAt wr b (xs.map tk)) := hcx
                    clear s1 s2 u1 u2 hyj hgx hta hdr hou hyl hcx
                    by_cases hx0 : x = 0
                    · subst hx0
                      have HE : Hid (ys.set j (tk 0) = ys) := set_same HZ.out (by have := HYL.out; omega)
                      go_wp2
                      go_roundw
                      case rel => exact ⟨j + 1, c, ys, by omega, by go_num, rfl, hcL, HU2.out (by omega), by rw [← HE.out]; exact HS1.out, by rw [← HE.out]; exact HS2.out, HC.out, hrx, hrv, hli, hBx⟩
                      case measure => simp [intOf]; omega
                    · by_cases hx1 : x = 1
                      · subst hx1
                        obtain ⟨hu, hd⟩ := HU1.out rfl
                        have hcl : c < L := by have := (List.getElem?_eq_some_iff.1 hu).1; have := HL.out; omega
                        obtain ⟨gv, ov, rfl, hcc⟩ := hrv c (.int .i64 j) (by unfold nums; rw [List.getElem?_map, hu]; rfl)
                        have hgv := (hli _ rfl).1
                        simp only at hgv
                        have hne : gv ≠ g := by omega
                        have HD : Hid ((outs 0 xs).drop (c + 1) = outs (j + 1) (xs.drop (j + 1))) := hd
                        have hcc2 : (wr.setCell ⟨g, j, none⟩ (.int .i64 0)).cell? ⟨gv, ov + c, none⟩ = some (.int .i64 j) := (World.cell?_of_block (a := ⟨gv, ov + c, none⟩) (Below.heap_setCell _ _ _ _ hne)).trans hcc
                        have hlw := World.block_lt_of_cell? wr ⟨gv, ov + c, none⟩ hcc
                        have HR : Hid (Reads (wr.setCell ⟨g, j, none⟩ (.int .i64 0)) (some ⟨gv, ov, none⟩) (nums (outs 0 xs))) := gb_reads (b := g) (fun x hx => by cases hx; exact ⟨hlw, hne⟩) (gb_set _) hrv
                        have HLI : Hid (Lies (wr.setCell ⟨g, j, none⟩ (.int .i64 0)) W.heap.size (some ⟨gv, ov, none⟩)) := hli.mono (Nat.le_refl _) (by simp [World.setCell])
                        clear hu hd hrv hli
                        go_wp2
                        go_roundw
                        case rel => exact ⟨j + 1, c + 1, ys.set j 0, by omega, by go_num, by go_num, by omega, HD.out, HS1.out, HS2.out, HC.out.row hrx j _, hrx.set j 0, HR.out, HLI.out, hBx.setCell (show w.heap.size ≤ g by omega) _⟩
                        case measure => simp [intOf]; omega
                      · have hxp : 0 < x := by omega
                        have hx2 : ¬ x - 1 = 0 := by omega
                        have HT : Hid (tk x = x - 1) := by show _ = _; unfold tk; rw [if_neg hx0]
                        have HR : Hid (Reads (wr.setCell ⟨g, j, none⟩ (.int .i64 (x - 1))) vo (nums (outs 0 xs))) := gb_reads (b := g) (fun x hx => ⟨(hli x hx).2, by have := (hli x hx).1; omega⟩) (gb_set _) hrv
                        have HLI : Hid (Lies (wr.setCell ⟨g, j, none⟩ (.int .i64 (x - 1))) W.heap.size vo) := hli.mono (Nat.le_refl _) (by simp [World.setCell])
                        clear hrv hli
                        go_wp2
                        go_roundw
                        case rel => exact ⟨j + 1, c, ys.set j (x - 1), by omega, by go_num, rfl, hcL, HU2.out hx1, by rw [← HT.out]; exact HS1.out, by rw [← HT.out]; exact HS2.out, HC.out.row hrx j _, hrx.set j (x - 1), HR.out, HLI.out, hBx.setCell (show w.heap.size ≤ g by omega) _⟩
                        case measure => simp [intOf]; omega
                  · obtain rfl : j = 8 := by omega
                    rw [show xs.drop 8 = [] from List.drop_eq_nil_of_le (by have := HX.out; omega), outs] at hou
                    have hcl : c = L := by
                      have := congrArg List.length hou
                      simp at this
                      have := HL.out
                      omega
                    subst hcl
                    rw [show ys.take 8 = ys from List.take_of_length_le (by have := hrx.len; omega), show xs.take 8 = xs from List.take_of_length_le (by have := HX.out; omega)] at hta
                    subst hta
                    clear hou hdr
                    go_wp2
                    go_meet
                    case rel => exact ⟨g, xs.map tk, rfl, ⟨hcx, hrx, hfe⟩, hBx⟩
      case rest =>
        as_aux_lemma =>
          clear hboW hBW hAl hAu hTl hTu hq0
          obtain ⟨g', ys, rfl, hbo, hB⟩ := hcut
          have HX : Hid (ys.length = 8) := hbo.clock.len
          have HO : Hid (∀ x ∈ ys, 0 ≤ x ∧ x ≤ 4294967296) := hbo.clock.ok
          go_wp2_with fail
          go_loopw [17, 18] (fun l i wx => ∃ (j : Nat) (a : Int), j ≤ 8 ∧ i = .int .i64 j ∧ l = .int .i64 a ∧ lst (ys.drop j) a = lst ys 0 ∧ 0 ≤ a ∧ Both wx b g' ys ∧ Below w.heap.size w wx) (fun _ i _ => 8 - (intOf i).toNat)
          case atStart => exact ⟨0, 0, by omega, rfl, rfl, rfl, by omega, hbo, hB⟩
          case round =>
            clear hbo hB
            obtain ⟨j, a, hj, rfl, rfl, hls, ha0, hbo, hB⟩ := hrel
            by_cases hj8 : j < 8
            · have hjl : j < ys.length := by have := HX.out; omega
              obtain ⟨c0, -⟩ := hbo.row.cell j hj8
              rw [show ys.getD j 0 = ys[j] by simp [List.getD, hjl]] at c0
              have hle : ∀ q, Calls Try.prog 16 #[.pointer (some ⟨b, 0, none⟩), .int .i64 j] (wr.drewN q) fun e w' => e = .returned (.int .i64 ys[j]) ∧ w' = wr.drewN q := fun q => by
                have := left_any b ys j (wr.drewN q) (hbo.clock.at_ rfl)
                rw [lft, if_pos (by omega), Int.toNat_natCast, show ys.getD j 0 = ys[j] by simp [List.getD, hjl]] at this
                exact this
              have hon : ∀ q, Calls Try.prog 17 #[.pointer (some ⟨b, 0, none⟩), .int .i64 j] (wr.drewN q) fun e w' => e = .returned (.bool (ys[j] != 0)) ∧ w' = wr.drewN q := fun q => by
                have := on_any b ys j (wr.drewN q) (hbo.clock.at_ rfl)
                rw [lft, if_pos (by omega), Int.toNat_natCast, show ys.getD j 0 = ys[j] by simp [List.getD, hjl]] at this
                exact this
              have hxb := HO.out _ (List.getElem_mem hjl)
              rw [List.drop_eq_getElem_cons hjl] at hls
              generalize ys[j] = x at c0 hle hon hxb hls
              have HLS : Hid (lst (x :: ys.drop (j + 1)) a = lst ys 0) := hls
              obtain ⟨x0, x1⟩ := hxb
              have HBO : Hid (Both wr b g' ys) := hbo
              have hgf := hbo.row.far
              clear hls hbo
              have hBq : ∀ q, Below w.heap.size w (wr.drewN q) := fun q => below_drewN hB q
              have hBoq : ∀ q, Both (wr.drewN q) b g' ys := fun q => HBO.out.keep (below_drewN (Below.refl _ _) q)
              have HBQ : Hid (∀ q, Below w.heap.size w (wr.drewN q)) := hBq
              have HBOQ : Hid (∀ q, Both (wr.drewN q) b g' ys) := hBoq
              clear hBq hBoq hB HBO
              by_cases hx0 : x = 0
              · subst hx0
                go_wp2_with fail
                go_quiet (first | (go_at_call 16; exact Calls.quiet_of_same (hle _)) | (go_at_call 17; exact Calls.quiet_of_same (hon _)))
                go_wp2
                go_roundw
                case rel => exact ⟨j + 1, a, by omega, by go_num, rfl, by have := HLS.out; rw [lst] at this; rw [← this]; congr 1 <;> (split <;> omega), by omega, HBOQ.out _, HBQ.out _⟩
                case measure => simp [intOf]; omega
              · have hx2 : 0 < x := by omega
                have ex : (x != 0) = true := by rw [bne_iff_ne]; exact hx0
                by_cases hae : a = 0
                · subst hae
                  go_wp2_with fail
                  go_quiet (first | (go_at_call 16; exact Calls.quiet_of_same (hle _)) | (go_at_call 17; exact Calls.quiet_of_same (hon _)))
                  go_wp2
                  go_roundw
                  case rel => exact ⟨j + 1, x, by omega, by go_num, rfl, by have := HLS.out; rw [lst] at this; rw [← this]; congr 1 <;> (split <;> omega), by omega, HBOQ.out _, HBQ.out _⟩
                  case measure => simp [intOf]; omega
                · have ea : (a == 0) = false := by rw [beq_eq_false_iff_ne]; exact hae
                  by_cases hxa : x < a
                  · go_wp2_with fail
                    go_quiet (first | (go_at_call 16; exact Calls.quiet_of_same (hle _)) | (go_at_call 17; exact Calls.quiet_of_same (hon _)))
                    go_wp2
                    go_roundw
                    case rel => exact ⟨j + 1, x, by omega, by go_num, rfl, by have := HLS.out; rw [lst] at this; rw [← this]; congr 1 <;> (split <;> omega), by omega, HBOQ.out _, HBQ.out _⟩
                    case measure => simp [intOf]; omega
                  · go_wp2_with fail
                    go_quiet (first | (go_at_call 16; exact Calls.quiet_of_same (hle _)) | (go_at_call 17; exact Calls.quiet_of_same (hon _)))
                    go_wp2
                    go_roundw
                    case rel => exact ⟨j + 1, a, by omega, by go_num, rfl, by have := HLS.out; rw [lst] at this; rw [← this]; congr 1 <;> (split <;> omega), by omega, HBOQ.out _, HBQ.out _⟩
                    case measure => simp [intOf]; omega
            · obtain rfl : j = 8 := by omega
              rw [List.drop_eq_nil_of_le (by have := HX.out; omega), lst] at hls
              have hlea := least_any b ys wr hbo.clock
              rw [← hls] at hlea
              have hl8 := left_any b ys 8 wr hbo.clock
              rw [lft, if_neg (by omega)] at hl8
              have hon1 := on_any b ys (-1) wr hbo.clock
              rw [lft, if_neg (by omega)] at hon1
              have HBO : Hid (Both wr b g' ys) := hbo
              clear hls hbo
              go_wp2_with (first
                | (go_at_call 18; refine hlea.mono ?_; rintro e w4 ⟨rfl, hw4⟩; obtain rfl := hw4.symm; clear hw4)
                | (go_at_call 16; refine hl8.mono ?_; rintro e w4 ⟨rfl, hw4⟩; obtain rfl := hw4.symm; clear hw4)
                | (go_at_call 17; refine hon1.mono ?_; rintro e w4 ⟨rfl, hw4⟩; obtain rfl := hw4.symm; clear hw4))
              go_roundw
              case rel => exact ⟨k + 1, g', ys, by omega, by go_num, rfl, HBO.out, hB⟩
              case measure => simp [intOf]; omega
    · go_wp2
      go_ret
      exact ⟨rfl, hB⟩

theorem plays_walk (ao : Option Addr) (n cap : Nat) (w : World) (h : n ≤ maxLen ∧ Acts w ao n) :
    Calls Try.prog 3 #[.slice ao n cap] w fun e w' => e = .returned (.bool true) ∧ Below w.heap.size w w' := by
  by_cases hl : 80 < n
  · exact plays_long ao n cap w h.1 hl
  · exact plays_short ao n cap w (by omega) h.2
end Go.Proofs.Ytjepgdpnhoolcaa.Tape
