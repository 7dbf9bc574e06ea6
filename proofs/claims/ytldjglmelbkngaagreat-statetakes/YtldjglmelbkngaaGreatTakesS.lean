/- The walk of the law StateTakes. -/
import Derived.Test.YtldjglmelbkngaaGreatClo1
import Derived.Test.YtldjglmelbkngaaGreatState20
import Derived.Test.YtldjglmelbkngaaGreatState22
import Derived.Test.YtldjglmelbkngaaGreatWaitsS
import Derived.Deep.RegionHeld
import Derived.Deep.RegionHeld3
import Derived.Deep.QuietTactic
import Derived.BigQuiet
namespace Go.Proofs.YtldjglmelbkngaaGreat.Tape
open Go.ChangeShapes Go.WideShapes Go.ChangeAt Go.RowKit
set_option linter.unusedVariables false

attribute [local go_sem ↓] ldU_def stU_def
attribute [local go_sem] m_taken c_taken

theorem tS_room (c : Bool) (n : Nat) : Room 900 (tS c n) := room_of (by cases c <;> (show _ = _; kernel_rfl))
theorem tS_took (c : Bool) (n : Nat) (l : List (Array Value)) : ({ tS c n with told := l } : St).took = tS c n := by cases c <;> rfl
theorem tS_last (c : Bool) (n : Nat) : (tS c n).wt.last = ((n : Int) + 127) % 128 := by cases c <;> rfl
theorem tS_s (c : Bool) (n : Nat) : (tS c n).s = 4 := by cases c <;> rfl

set_option maxRecDepth 100000 in
set_option maxHeartbeats 4000000 in
theorem takes_walk (c : Bool) (a : Option Addr) (len cap : Nat) (xs : List Int) (w : World) (hxl : len = xs.length) (hrd : Reads w a (xs.map (.int .u8))) (hxb : ∀ x ∈ xs, 0 ≤ x ∧ x ≤ 255) : Calls Tryz.prog 14 #[.bool c, .slice a len cap] w fun e w' => e = .returned (.bool true) ∧ Below w.heap.size w w' := by
  have haw := awake17_any w
  by_cases hlong : 60 < len
  · have hd : decide ((60 : Int) < (len : Int)) = true := by rw [decide_eq_true_iff]; omega
    clear hrd hxb hxl
    go_enter Tryz.func14, Tryz.ntmps14
    go_wp2_with fail
    refine haw.mono ?_
    rintro e w1 ⟨rfl, hB1⟩
    have haw2 := awake17_any w1
    clear haw
    go_wp2_with fail
    refine haw2.mono ?_
    rintro e w2 ⟨rfl, hB2⟩
    go_wp2
    go_ret
    exact ⟨rfl, hB1.trans (below_le hB2 hB1.size)⟩
  have hd : decide ((60 : Int) < (len : Int)) = false := by rw [decide_eq_false_iff_not]; omega
  have hl60 : len ≤ 60 := by omega
  have HRD : Hid (Reads w a (xs.map (.int .u8)) ∧ len = xs.length ∧ ∀ x ∈ xs, 0 ≤ x ∧ x ≤ 255) := ⟨hrd, hxl, hxb⟩
  clear hrd hxl hxb
  go_enter Tryz.func14, Tryz.ntmps14
  go_wp2_with fail
  refine haw.mono ?_
  rintro e w1 ⟨rfl, hB1⟩
  have hsv := serving_any c w1
  have HB1 : Hid (Below w.heap.size w w1) := hB1
  clear haw hB1
  go_wp2_with fail
  refine hsv.mono ?_
  rintro e w2 ⟨P, rfl, hcy, hPB, hA⟩
  have HA2 : Hid (LA w P 900 (tS c 0) noK w2) := (hA.base HB1.out).eq (by cases c <;> rfl)
  clear hsv hcy hPB hA HB1 hd hlong
  go_wp2_with fail
  go_loopw [6, 7] (fun nx i wr => ∃ j n : Nat, j ≤ len ∧ n ≤ j ∧ nx = .int .i64 n ∧ i = .int .i64 j ∧ Hid (LA w P 900 (tS c n) noK wr)) (fun _ i _ => len - (intOf i).toNat)
  case atStart => exact ⟨0, 0, by omega, by omega, rfl, rfl, HA2⟩
  case round =>
    clear HA2
    obtain ⟨j, n, hj, hnj, rfl, rfl, HA⟩ := hrel
    by_cases hl : j < len
    · have hd : decide ((j : Int) < (len : Int)) = true := by rw [decide_eq_true_iff]; omega
      have hw : IntKind.u8.wrap (j : Int) = j := IntWalk.u8_in _ (by omega)
      have hfi := lfill_any wr
      go_wp2_with fail
      refine hfi.mono ?_
      rintro e w3 ⟨rfl, hB3⟩
      have hA3 := HA.out.keep hB3
      obtain ⟨W4, hst4, hB4, hh4⟩ := kept_any w3 #[.int .u8 127, .int .u8 127, .bool true, .bool true, .int .u8 0, .int .u8 0, .bool false, .slice none 0 0] rfl (by simp [Value.oneCell'])
      have hA4 := hA3.box hB4 hh4
      have hw3 := hA3.below.size
      have hA5 : LA w P 900 (tS c n) (andK noK (Box w3.heap.size #[.int .u8 127, .int .u8 127, .bool true, .bool true, .int .u8 2, .int .u8 0, .bool false, .slice none 0 0])) (W4.setCell ⟨w3.heap.size, 4, none⟩ (.int .u8 2)) := hA4.put 4 (.int .u8 2) hw3 stays_no (fun _ _ => trivial)
      have u4 := (unit_cells hh4).1.2.2.2.2.1
      have z4 := (unit_cells hh4).2 4
      clear hfi HA hB3 hA3 hB4 hA4
      go_upto_region 10 with fail
      generalize W4.setCell ⟨w3.heap.size, 4, none⟩ (.int .u8 2) = W5 at *
      clear hst4 hh4 u4 z4
      have hB6 : Below W5.heap.size W5 (W5.alloc (.cells #[.int .u8 j, .int .u8 1, .int .u8 2] 5)) := (Below.refl _ _).alloc (Nat.le_refl _) _
      have hlt6 : w3.heap.size < W5.heap.size := heap_lt hA5.boxed
      have hA6 : LA w P 900 (tS c n) (andK (andK noK (Oct W5.heap.size [(j : Int), 1, 2])) (Box w3.heap.size #[.int .u8 127, .int .u8 127, .bool true, .bool true, .int .u8 2, .int .u8 0, .bool false, .slice none 0 0])) (W5.alloc (.cells #[.int .u8 j, .int .u8 1, .int .u8 2] 5)) := (hA5.oct hB6 (oct3 W5 j 1 2) (by simp)).to (stays_and (stays_and stays_no (stays_oct _ _)) (stays_box _ _)) fun _ _ e => ⟨⟨trivial, e.2⟩, e.1.2⟩
      have hA7 : LA w P 900 (tS c n) (andK (andK noK (Oct W5.heap.size [(j : Int), 1, 2])) (Box w3.heap.size #[.int .u8 127, .int .u8 127, .bool true, .bool true, .int .u8 2, .int .u8 0, .bool false, .slice (some ⟨W5.heap.size, 0, none⟩) 3 3])) ((W5.alloc (.cells #[.int .u8 j, .int .u8 1, .int .u8 2] 5)).setCell ⟨w3.heap.size, 7, none⟩ (.slice (some ⟨W5.heap.size, 0, none⟩) 3 3)) := hA6.put 7 (.slice (some ⟨W5.heap.size, 0, none⟩) 3 3) hw3 (stays_and stays_no (stays_oct _ _)) (fun T e => ⟨trivial, oct_put (by omega) e.2⟩)
      have u7 := (unit_cells hA6.boxed).1.2.2.2.2.2.2.2
      have z7 := (unit_cells hA6.boxed).2 7
      have HNE : Hid (¬ W5.heap.size = w3.heap.size) := by show ¬ _; omega
      clear hA5 hB6 hlt6 hA6
      go_upto_region 11 with fail
      generalize (W5.alloc (.cells #[.int .u8 j, .int .u8 1, .int .u8 2] 5)).setCell ⟨w3.heap.size, 7, none⟩ (.slice (some ⟨W5.heap.size, 0, none⟩) 3 3) = W7 at *
      clear u7 z7
      generalize W5.heap.size = g5 at *
      have hkb : j < xs.length := by have := HRD.out.2.1; omega
      obtain ⟨g, off, rfl, hck⟩ := (HRD.out.1.below (Nat.le_refl _) hA7.below).byte j hkb
      have hx := HRD.out.2.2 _ (List.getElem_mem hkb)
      obtain ⟨x, hxj⟩ : ∃ x, xs[j] = x := ⟨_, rfl⟩
      rw [hxj] at hck hx
      have htm : x.tmod 3 = x % 3 := Int.tmod_eq_emod_of_nonneg hx.1
      by_cases h3 : 0 < x % 3
      · have hd3 : decide ((0 : Int) < x % 3) = true := by rw [decide_eq_true_iff]; exact h3
        have hwn : IntKind.u8.wrap (n : Int) = n := IntWalk.u8_in _ (by omega)
        have hA8 : LA w P 900 (tS c n) (andK (andK noK (Oct g5 [(j : Int), 1, 2])) (Box w3.heap.size #[.int .u8 127, .int .u8 (n : Int), .bool true, .bool true, .int .u8 2, .int .u8 0, .bool false, .slice (some ⟨g5, 0, none⟩) 3 3])) (W7.setCell ⟨w3.heap.size, 1, none⟩ (.int .u8 (n : Int))) := hA7.put 1 (.int .u8 (n : Int)) hw3 (stays_and stays_no (stays_oct _ _)) (fun T e => ⟨trivial, oct_put HNE.out e.2⟩)
        have u1 := (unit_cells hA7.boxed).1.2.1
        have z1 := (unit_cells hA7.boxed).2 1
        have hlu := (ld_unit hA8.boxed rfl).1
        have hhe := LA.hearO (k := 890) hA8 (fun T e => e.1.2) 127 (n : Int) 2 0 true true false 3 3 (by decide) (by decide) rfl (by decide)
        clear hA7 hA8 hw3
        go_upto_region 14 with fail
        generalize W7.setCell ⟨w3.heap.size, 1, none⟩ (.int .u8 (n : Int)) = W8 at *
        clear u1 z1
        go_wp2_with fail
        refine hhe.mono ?_
        rintro e w9 ⟨rfl, q1, hA⟩
        rw [tS_hear, tS_take c n (by omega) q1] at hA
        have hto := hA.told
        rw [show (({ tS c (n + 1) with told := [tdC 3 0 q1] } : St)).told = [tdC 3 0 q1] from rfl, tS_took] at hto
        clear hhe hA hlu
        go_wp2_with fail
        refine hto.mono ?_
        rintro e w10 ⟨v, rfl, hA⟩
        obtain ⟨ao, cap', rfl, hcell⟩ := hA.read
        obtain ⟨g1, rfl, hc⟩ := hcell 0 _ rfl
        obtain ⟨vo, vc, rfl, hrd⟩ : ∃ vo vc, q1 = .slice vo 3 vc ∧ Reads w10 vo (([(j : Int), 1, 2] : List Int).map (.int .u8)) := hA.the fun T e => by
          obtain ⟨vo, vc, e1, e2, -⟩ := e.1.2 (tS_gets c n (by omega))
          exact ⟨vo, vc, e1, e2⟩
        have hcv : ∀ q, _ := fun q => conv_reads (n := 3) (cap := vc) rfl (hrd.drewN q)
        have hcv2 : ∀ q, _ := fun q => conv_reads (n := 3) (cap := 3) rfl (Reads.drewN (hA.the fun T e => e.1.1.1.2.1) q)
        have u7 : w10.cell? ⟨w3.heap.size, 7, none⟩ = some (.slice (some ⟨g5, 0, none⟩) 3 3) := (unit_cells (hA.the fun T e => e.1.1.2.1)).1.2.2.2.2.2.2.2
        generalize str [(j : Int), 1, 2] = SS at hcv hcv2
        have d0 : w10.cell? ⟨g1, 0, none⟩ = some (.int .u8 3) := by simpa [tdC] using hc 0 (by omega)
        have d2 : w10.cell? ⟨g1, 2, none⟩ = some (.slice vo 3 vc) := by simpa [tdC] using hc 2 (by omega)
        have hS := (⟨d0, d2, u7⟩ : w10.cell? ⟨g1, 0, none⟩ = some (.int .u8 3) ∧ w10.cell? ⟨g1, 2, none⟩ = some (.slice vo 3 vc) ∧ w10.cell? ⟨w3.heap.size, 7, none⟩ = some (.slice (some ⟨g5, 0, none⟩) 3 3))
        have hck' : w10.cell? ⟨g, off + j, none⟩ = some (.int .u8 x) := by
          obtain ⟨g', off', e, hck'⟩ := (HRD.out.1.below (Nat.le_refl _) hA.below).byte j hkb
          simp only [Option.some.injEq, Addr.mk.injEq, and_true] at e
          obtain ⟨rfl, rfl⟩ := e
          rw [hck', ← hxj]
        have HA10 : Hid (∀ q, LA w P 900 (tS c (n + 1)) noK (w10.drewN q)) := fun q => ((LA.room hA (tS_room c (n + 1))).no).keep (below_drewN (Below.refl _ _) q)
        clear hto hA hcell hc hrd hck
        go_upto_region 17 with fail
        go_quiet (fail)
        all_goals
          go_wp2_with fail
          go_roundw
          case rel => exact ⟨j + 1, n + 1, by omega, by omega, by go_num, by go_num, HA10.out _⟩
          case measure => simp [intOf]; omega
      · have hd3 : decide ((0 : Int) < x % 3) = false := by rw [decide_eq_false_iff_not]; exact h3
        obtain ⟨L, hL⟩ : ∃ L : Int, ((n : Int) + 127) % 128 = L := ⟨_, rfl⟩
        have hT : ((n : Int) + 127).tmod 128 = L := by rw [Int.tmod_eq_emod_of_nonneg (by omega), hL]
        have hwn : IntKind.u8.wrap L = L := IntWalk.u8_in _ (by omega)
        have hA8 : LA w P 900 (tS c n) (andK (andK noK (Oct g5 [(j : Int), 1, 2])) (Box w3.heap.size #[.int .u8 127, .int .u8 L, .bool true, .bool true, .int .u8 2, .int .u8 0, .bool false, .slice (some ⟨g5, 0, none⟩) 3 3])) (W7.setCell ⟨w3.heap.size, 1, none⟩ (.int .u8 L)) := hA7.put 1 (.int .u8 L) hw3 (stays_and stays_no (stays_oct _ _)) (fun T e => ⟨trivial, oct_put HNE.out e.2⟩)
        have u1 := (unit_cells hA7.boxed).1.2.1
        have z1 := (unit_cells hA7.boxed).2 1
        have hlu := (ld_unit hA8.boxed rfl).1
        have hhe := LA.hearO (k := 890) hA8 (fun T e => e.1.2) 127 L 2 0 true true false 3 3 (by decide) (by decide) rfl (by decide)
        clear hA7 hA8 hw3
        go_upto_region 14 with fail
        generalize W7.setCell ⟨w3.heap.size, 1, none⟩ (.int .u8 L) = W8 at *
        clear u1 z1
        go_wp2_with fail
        refine hhe.mono ?_
        rintro e w9 ⟨rfl, q1, hA⟩
        rw [tS_hear, ← hL, tS_not] at hA
        have hto := hA.told
        rw [show (tS c n).told = [] from by cases c <;> rfl, show (tS c n).took = tS c n from by cases c <;> rfl] at hto
        clear hhe hA hlu
        go_wp2_with fail
        refine hto.mono ?_
        rintro e w10 ⟨v, rfl, hA⟩
        obtain ⟨ao, cap', rfl, -⟩ := hA.read
        have hck' : w10.cell? ⟨g, off + j, none⟩ = some (.int .u8 x) := by
          obtain ⟨g', off', e, hck'⟩ := (HRD.out.1.below (Nat.le_refl _) hA.below).byte j hkb
          simp only [Option.some.injEq, Addr.mk.injEq, and_true] at e
          obtain ⟨rfl, rfl⟩ := e
          rw [hck', ← hxj]
        have HA10 : Hid (LA w P 900 (tS c n) noK w10) := (LA.room hA (tS_room c n)).no
        clear hto hA hck
        go_wp2_with fail
        go_roundw
        case rel => exact ⟨j + 1, n, by omega, by omega, by go_num, by go_num, HA10⟩
        case measure => simp [intOf]; omega
    · have hd : decide ((j : Int) < (len : Int)) = false := by rw [decide_eq_false_iff_not]; omega
      obtain ⟨c0, -, -, c4, -⟩ := HA.out.all
      rw [tS_s] at c0
      have hta := HA.out.taken
      rw [tS_last] at hta
      obtain ⟨L, hL⟩ : ∃ L : Int, ((n : Int) + 127) % 128 = L := ⟨_, rfl⟩
      have hT : ((n : Int) + 127).tmod 128 = L := by rw [Int.tmod_eq_emod_of_nonneg (by omega), hL]
      rw [hL] at hta
      have HB : Hid (Below w.heap.size w wr) := HA.out.below
      clear HA
      go_wp2_with fail
      with_reducible change Calls Tryz.prog (fTaken _) _ _ _
      refine hta.mono ?_
      rintro e w11 ⟨rfl, rfl⟩
      clear hta
      go_wp2
      go_ret
      exact ⟨rfl, HB.out⟩
end Go.Proofs.YtldjglmelbkngaaGreat.Tape
