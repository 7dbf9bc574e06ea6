/- The contracts of the law's serving, awake, wait. -/
import Derived.Test.YtldjglmelbkngaaGreatState19
namespace Go.Proofs.YtldjglmelbkngaaGreat.Tape
open Go.ChangeShapes Go.WideShapes Go.ChangeAt Go.RowKit
set_option linter.unusedVariables false

attribute [local go_sem ↓] ldU_def stU_def

/-- A new link of the law's. -/
theorem quicknew_any (c : Bool) (w : World) : Calls Tryz.prog 16 #[.agg (qC c)] w fun e w' => ∃ P, e = .returned (.pointer (some ⟨P.b, 0, none⟩)) ∧ P.cy = c ∧ P.B = w.heap.size ∧ LA w P 1000 (stN c 8 300 16 600 qT) noK w' := by
  refine (stnew_any c 8 300 16 600 qT w (by decide) (by decide) (by decide) (by decide) qT_ok).mono ?_
  rintro e w' ⟨P, T, rfl, hc, hB, hS, hb⟩
  exact ⟨P, rfl, hc, hB, ⟨T, hS, trivial⟩, stays_no, hb, by rw [hB]; exact Nat.le_refl _⟩

set_option maxRecDepth 100000 in
set_option maxHeartbeats 2000000 in
theorem serving_any (c : Bool) (w : World) : Calls Tryz.prog 22 #[.bool c] w fun e w' => ∃ P, e = .returned (.pointer (some ⟨P.b, 0, none⟩)) ∧ P.cy = c ∧ P.B ≤ w'.heap.size ∧ LA w P 900 (svC c) noK w' := by
  have hqu := quick_any c w
  have HLK : Hid (∀ s W, Calls Tryz.prog 31 #[.int .u8 s] W fun e w' => e = .returned (.agg #[.int .u8 127, .int .u8 127, .bool true, .bool true, .int .u8 1, .int .u8 s, .bool false, .slice none 0 0]) ∧ Below W.heap.size W w') := fun s W => link_any s W
  go_enter Tryz.func22, Tryz.ntmps22
  go_wp2_with fail
  refine hqu.mono ?_
  rintro e w1 ⟨rfl, hB1⟩
  have hne := quicknew_any c w1
  have HB1 : Hid (Below w.heap.size w w1) := hB1
  clear hB1 hqu
  go_wp2_with fail
  refine hne.mono ?_
  rintro e w2 ⟨P, rfl, hcy, hPB, hA⟩
  have hA := hA.base HB1.out
  have hor := LA.order0 (k := 998) hA 1
  have HP : Hid (P.cy = c) := hcy
  clear hne hPB hA hcy
  go_wp2_with fail
  refine hor.mono ?_
  rintro e w3 ⟨rfl, hA⟩
  have HA3 : Hid (LA w P 998 (svA c) noK w3) := hA
  have hlk := HLK.out 0 w3
  clear hor hA
  go_wp2_with fail
  refine hlk.mono ?_
  rintro e w4 ⟨rfl, hB⟩
  have hhe := LA.hear0 (k := 988) (HA3.out.keep hB) 127 127 1 0 true true false (by decide) (by decide)
  clear hlk hB
  go_wp2_with fail
  refine hhe.mono ?_
  rintro e w5 ⟨rfl, q1, hA⟩
  have HA5 : Hid (LA w P 988 (svB c q1) noK w5) := hA
  have hlk := HLK.out 1 w5
  clear hhe hA
  go_wp2_with fail
  refine hlk.mono ?_
  rintro e w6 ⟨rfl, hB⟩
  have hhe := LA.hear0 (k := 978) (HA5.out.keep hB) 127 127 1 1 true true false (by decide) (by decide)
  clear hlk hB
  go_wp2_with fail
  refine hhe.mono ?_
  rintro e w7 ⟨rfl, q2, hA⟩
  have HA7 : Hid (LA w P 978 (svD c q1 q2) noK w7) := hA
  clear hhe hA
  go_wp2_with fail
  go_loopw [4] (fun i wr => ∃ n : Nat, n ≤ 10 ∧ i = .int .i64 n ∧ Hid (LA w P (800 + 16 * (10 - n)) ((svD c q1 q2).tks n) noK wr)) (fun i _ => 10 - (intOf i).toNat)
  case atStart => exact ⟨0, by omega, rfl, HA7.out.mono (by omega)⟩
  case round =>
    clear HA7
    obtain ⟨n, hn, rfl, HA⟩ := hrel
    by_cases hl : n < 10
    · have hd : decide ((n : Int) < 10) = true := by rw [decide_eq_true_iff]; omega
      have hti := LA.tick (k := 800 + 16 * (10 - (n + 1))) (HA.out.mono (by omega))
      go_wp2_with fail
      refine hti.mono ?_
      rintro e w8 ⟨rfl, hA⟩
      have HA8 : Hid (LA w P (800 + 16 * (10 - (n + 1))) ((svD c q1 q2).tks (n + 1)) noK w8) := hA
      clear hti hA HA
      go_wp2_with fail
      go_roundw
      case rel => exact ⟨n + 1, by omega, by go_num, HA8⟩
      case measure => simp [intOf]; omega
    · obtain rfl : n = 10 := by omega
      have hfi := lfill_any wr
      go_wp2_with fail
      refine hfi.mono ?_
      rintro e w8 ⟨rfl, hB⟩
      have hhe := LA.hear0 (k := 790) (HA.out.keep hB) 127 127 0 0 true true false (by decide) (by decide)
      clear hfi hB HA
      go_wp2_with fail
      refine hhe.mono ?_
      rintro e w9 ⟨rfl, q3, hA⟩
      have hA9 : LA w P 790 { svC c with told := [tdC 1 0 nilV] } noK w9 := LA.eq hA (sv_eq c q1 q2 q3)
      have hto := hA9.told
      clear hhe hA hA9
      go_wp2_with fail
      refine hto.mono ?_
      rintro e w10 ⟨v, rfl, hA⟩
      obtain ⟨⟨T, hS, -, hrow, -⟩, -⟩ := id hA
      obtain ⟨ao, cap, rfl⟩ := hrow.form
      obtain ⟨-, hcell⟩ := hrow.cell
      obtain ⟨g, rfl, hc⟩ := hcell 0 _ rfl
      have d0 : w10.cell? ⟨g, 0, none⟩ = some (.int .u8 1) := by simpa [tdC] using hc 0 (by omega)
      have hal := hA.all.1
      have HAF : Hid (LA w P 900 (svC c) noK w10) := (hA.no.eq (x' := svC c) rfl).room (room_of (by cases c <;> rfl))
      have HSZ : Hid (P.B ≤ w10.heap.size) := hS.lt.2
      have hal : w10.cell? ⟨P.b, 0, none⟩ = some (.int .u8 4) := hal
      clear hto hA hS hrow hcell hc
      go_wp2
      go_ret
      exact ⟨P, rfl, HP.out, HSZ.out, HAF.out⟩

set_option maxRecDepth 100000 in
set_option maxHeartbeats 2000000 in
theorem awake17_any (w : World) : Calls Tryz.prog 15 #[] w fun e w' => e = .returned (.bool true) ∧ Below w.heap.size w w' := by
  have hqu := quick_any false w
  have HSV : Hid (∀ c W, Calls Tryz.prog 22 #[.bool c] W fun e w' => ∃ P, e = .returned (.pointer (some ⟨P.b, 0, none⟩)) ∧ P.cy = c ∧ P.B ≤ w'.heap.size ∧ LA W P 900 (svC c) noK w') := fun c W => serving_any c W
  go_enter Tryz.func15, Tryz.ntmps15
  go_wp2_with fail
  refine hqu.mono ?_
  rintro e w1 ⟨rfl, hB1⟩
  have hne := quicknew_any false w1
  have HB1 : Hid (Below w.heap.size w w1) := hB1
  clear hB1 hqu
  go_wp2_with fail
  refine hne.mono ?_
  rintro e w2 ⟨P, rfl, hcy, hPB, hA⟩
  have hA := hA.base HB1.out
  have hor := LA.order0 (k := 998) hA 1
  clear hne hPB hA hcy
  go_wp2_with fail
  refine hor.mono ?_
  rintro e w3 ⟨rfl, hA⟩
  have hA : LA w P 998 (svA false) noK w3 := hA
  have hnx := hA.next
  clear hor hA
  rw [show (stN false 8 300 16 600 qT).ordE 1 [] = 0 from by show _ = _; kernel_rfl, show (svA false).nk = 1 from by show _ = _; kernel_rfl, show (svA false).ns = 0 from by show _ = _; kernel_rfl] at *
  go_wp2_with fail
  refine hnx.mono ?_
  rintro e w4 ⟨⟨a, b, c, d, ao, n, cap, rfl⟩, hA⟩
  obtain ⟨u, hu⟩ : ∃ u : Array Value, u = #[.int .u8 a, .int .u8 b, .bool c, .bool d, .int .u8 1, .int .u8 0, .bool false, .slice ao n cap] := ⟨_, rfl⟩
  have hu8 : u.size = 8 := by rw [hu]; rfl
  have hu1 : u.all (·.oneCell') = true := by rw [hu]; simp [Value.oneCell']
  obtain ⟨W5, hst5, hB5, hh5⟩ := kept_any w4 u hu8 hu1
  have HU : Hid (u = #[.int .u8 a, .int .u8 b, .bool c, .bool d, .int .u8 1, .int .u8 0, .bool false, .slice ao n cap]) := hu
  have hh5' := hh5
  rw [hu] at hh5'
  obtain ⟨⟨-, -, -, -, u4, u5, -⟩, -⟩ := unit_cells hh5'
  have hA5 := hA.keep hB5
  have hal := hA5.all.1
  have hal : W5.cell? ⟨P.b, 0, none⟩ = some (.int .u8 1) := hal
  have HB5 : Hid (Below w.heap.size w W5) := hA5.below
  rw [← hu]
  clear hnx hA hA5 hh5 hh5' hu hB5 hu8 hu1 HU
  go_wp2_with fail
  have hs1 := HSV.out false W5
  refine hs1.mono ?_
  rintro e w6 ⟨P6, rfl, -, -, hA6⟩
  have HB6 : Hid (Below w.heap.size w w6) := (hA6.base HB5.out).below
  clear hs1 hA6 u4 u5 hal hst5
  go_wp2_with fail
  have hs2 := HSV.out true w6
  refine hs2.mono ?_
  rintro e w7 ⟨P7, rfl, -, -, hA7⟩
  have HB7 : Hid (Below w.heap.size w w7) := (hA7.base HB6.out).below
  clear hs2 hA7
  go_wp2_with fail
  go_ret
  exact ⟨rfl, HB7.out⟩

set_option maxRecDepth 100000 in
theorem wait_any {w0 : World} {P : Pl} {x : St} {K : World → (Nat → Prop) → Prop} (n : Nat) (hn : n ≤ 300) (k : Nat) (hr : ∀ i, i ≤ n → Room (k + 16) (x.tks i)) (w : World) (h : LA w0 P k x K w) :
    Calls Tryz.prog 36 #[.pointer (some ⟨P.b, 0, none⟩), .int .i64 n] w fun e w' => e = .returned (.tuple #[]) ∧ LA w0 P k (x.tks n) K w' := by
  have HA0 : Hid (LA w0 P k (x.tks 0) K w) := h
  have HR : Hid (∀ i, i ≤ n → Room (k + 16) (x.tks i)) := hr
  clear h hr
  go_enter Tryz.func36, Tryz.ntmps36
  go_wp2_with fail
  go_loopw [4] (fun i wr => ∃ j : Nat, j ≤ n ∧ i = .int .i64 j ∧ Hid (LA w0 P k (x.tks j) K wr)) (fun i _ => n - (intOf i).toNat)
  case atStart => exact ⟨0, by omega, rfl, HA0⟩
  case round =>
    clear HA0
    obtain ⟨j, hj, rfl, HA⟩ := hrel
    by_cases hl : j < n
    · have hd : decide ((j : Int) < (n : Int)) = true := by rw [decide_eq_true_iff]; omega
      have hti := LA.tick (k := k) (HA.out.room (HR.out j (by omega)))
      go_wp2_with fail
      refine hti.mono ?_
      rintro e w8 ⟨rfl, hA⟩
      have HA8 : Hid (LA w0 P k (x.tks (j + 1)) K w8) := hA
      clear hti hA HA
      go_wp2_with fail
      go_roundw
      case rel => exact ⟨j + 1, by omega, by go_num, HA8⟩
      case measure => simp [intOf]; omega
    · obtain rfl : j = n := by omega
      have hd : decide ((j : Int) < (j : Int)) = false := by rw [decide_eq_false_iff_not]; omega
      go_wp2_with fail
      refine bodyPost_end (results_none rfl _ _ _) rfl ?_
      exact ⟨rfl, HA.out⟩
end Go.Proofs.YtldjglmelbkngaaGreat.Tape
