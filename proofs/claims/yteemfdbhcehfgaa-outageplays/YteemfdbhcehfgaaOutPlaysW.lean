/- The walk of the law OutagePlays. -/
import Derived.Test.YteemfdbhcehfgaaOut1
import Derived.Deep.CutBlock
namespace Go.Proofs.Yteemfdbhcehfgaa.Tape
open Go.ChangeShapes Go.WideShapes Go.ChangeAt Go.RowKit
set_option linter.unusedVariables false

theorem pgoes_ff : goes false false = true := rfl
theorem pgoes_ft : goes false true = false := rfl
theorem pgoes_tf : goes true false = false := rfl
theorem pgoes_tt : goes true true = false := rfl
attribute [local go_sem] pgoes_ff pgoes_ft pgoes_tf pgoes_tt

set_option maxRecDepth 100000 in
set_option maxHeartbeats 1000000 in
theorem outplays_long (ao : Option Addr) (n cap : Nat) (w : World) (hm : n ≤ maxLen) (hl : 100 < n) :
    Calls Try.prog 4 #[.slice ao n cap] w fun e w' => e = .returned (.bool true) ∧ Below w.heap.size w w' := by
  unfold maxLen at hm
  go_enter Try.func4, Try.ntmps4
  go_wp2_with fail
  refine (awake15_any _).mono ?_
  rintro e w1 ⟨rfl, hb1⟩
  go_wp2_with fail
  refine (awake15_any _).mono ?_
  rintro e w2 ⟨rfl, hb2⟩
  go_wp2
  go_ret
  exact ⟨rfl, hb1.trans (hb2.mono hb1.size)⟩

set_option maxRecDepth 100000 in
set_option maxHeartbeats 2000000 in
theorem outplays_short (ao : Option Addr) (n cap : Nat) (xs : List Int) (w : World) (hl : n ≤ 100) (hn : xs.length = n) (hr : Reads w ao (xs.map (.int .u8))) (hx : ∀ x ∈ xs, 0 ≤ x ∧ x ≤ 255) :
    Calls Try.prog 4 #[.slice ao n cap] w fun e w' => e = .returned (.bool true) ∧ Below w.heap.size w w' := by
  have HN : Hid (xs.length = n) := hn
  have HR : Hid (∀ W, Below w.heap.size w W → Reads W ao (xs.map (.int .u8))) := fun W hW => hr.below (Nat.le_refl _) hW
  have HX : Hid (∀ x ∈ xs, 0 ≤ x ∧ x ≤ 255) := hx
  clear hn hr hx
  go_enter Try.func4, Try.ntmps4
  go_wp2_with fail
  refine (awake15_any _).mono ?_
  rintro e w1 ⟨rfl, hb1⟩
  have hO := OutAt.new w1 false false false
  have hB := hb1.alloc hb1.size (.cells #[.bool false, .bool false, .bool false] 23)
  have HS : Hid (w.heap.size ≤ w1.heap.size) := hb1.size
  have e100 : decide ((100 : Int) < (n : Int)) = false := decide_eq_false (by omega)
  clear hb1
  go_wp2_with fail
  generalize w1.heap.size = p at *
  clear e100
  go_loopw [4, 5, 6, 7] (fun o t wt i wr => ∃ (k : Nat) (a b c : Bool), k ≤ n ∧ i = .int .i64 k ∧ o = .bool a ∧ t = .bool b ∧ wt = .bool c ∧ OutAt wr p a b c ∧ Below w.heap.size w wr) (fun _ _ _ i _ => n - (intOf i).toNat)
  case atStart => exact ⟨0, false, false, false, by omega, rfl, rfl, rfl, rfl, hO, hB⟩
  case round =>
    clear hO hB
    obtain ⟨k, a, b, c, hk, rfl, rfl, rfl, rfl, hO, hB⟩ := hrel
    by_cases hlt : k < n
    · have hkl : k < xs.length := by have := HN.out; omega
      obtain ⟨g, off, rfl, hcell⟩ := (HR.out _ hB).byte k hkl
      obtain ⟨hx0, hx1⟩ := HX.out _ (List.getElem_mem hkl)
      generalize xs[k] = x at hcell hx0 hx1
      obtain ⟨⟨c0, c1, c2⟩, hz⟩ := hO.all
      have z0 := hz 0
      have z1 := hz 1
      have z2 := hz 2
      have HO : Hid (OutAt wr p a b c) := hO
      clear hz hO
      have hq : x % 5 = 0 ∨ x % 5 = 1 ∨ x % 5 = 2 ∨ x % 5 = 3 ∨ x % 5 = 4 := by omega
      rcases hq with hq | hq | hq | hq | hq
      · skip
        · as_aux_lemma =>
            go_wp2_with fail
            refine (local_any a b c true wr).mono ?_
            rintro e w5 ⟨rfl, hB5⟩
            have hO2 := (out_keep hB5 HO.out (heap_lt HO.out)).put (true) (b) (c)
            have hlt5 := (out_keep hB5 HO.out (heap_lt HO.out)).lt
            obtain ⟨-, hz⟩ := (out_keep hB5 HO.out (heap_lt HO.out)).all
            have z0 := hz 0
            have z1 := hz 1
            have z2 := hz 2
            obtain ⟨⟨k0, k1, k2⟩, -⟩ := (out_keep hB5 HO.out (heap_lt HO.out)).all
            have hB6 := out_below (hB.trans (hB5.mono hB.size)) HS.out (.bool (true)) (.bool (b)) (.bool (c))
            have hi := is_any (true) (b) (c) (((w5.setCell ⟨p, 0, none⟩ (.bool (true))).setCell ⟨p, 1, none⟩ (.bool (b))).setCell ⟨p, 2, none⟩ (.bool (c)))
            clear hz hB5
            go_wp2_with fail
            refine hi.mono ?_
            rintro e w6 ⟨rfl, hB7⟩
            have hO3 := out_keep hB7 hO2 hO2.lt
            have hB8 := hB6.trans (hB7.mono hB6.size)
            clear hi hO2 hB6 hB7 hB hq
            go_wp2
            go_roundw
            case rel => exact ⟨k + 1, true, b, c, by omega, by go_num, rfl, rfl, rfl, hO3, hB8⟩
            case measure => simp [intOf]; omega
      · rcases b with _ | _
        · as_aux_lemma =>
            go_wp2_with fail
            refine (local_any a false c false wr).mono ?_
            rintro e w5 ⟨rfl, hB5⟩
            have hO2 := (out_keep hB5 HO.out (heap_lt HO.out)).put (false) (false) (c)
            have hlt5 := (out_keep hB5 HO.out (heap_lt HO.out)).lt
            obtain ⟨-, hz⟩ := (out_keep hB5 HO.out (heap_lt HO.out)).all
            have z0 := hz 0
            have z1 := hz 1
            have z2 := hz 2
            obtain ⟨⟨k0, k1, k2⟩, -⟩ := (out_keep hB5 HO.out (heap_lt HO.out)).all
            have hB6 := out_below (hB.trans (hB5.mono hB.size)) HS.out (.bool (false)) (.bool (false)) (.bool (c))
            have hi := is_any (false) (false) (c) (((w5.setCell ⟨p, 0, none⟩ (.bool (false))).setCell ⟨p, 1, none⟩ (.bool (false))).setCell ⟨p, 2, none⟩ (.bool (c)))
            clear hz hB5
            go_wp2_with fail
            refine hi.mono ?_
            rintro e w6 ⟨rfl, hB7⟩
            have hO3 := out_keep hB7 hO2 hO2.lt
            have hB8 := hB6.trans (hB7.mono hB6.size)
            clear hi hO2 hB6 hB7 hB hq
            go_wp2
            go_roundw
            case rel => exact ⟨k + 1, false, false, c, by omega, by go_num, rfl, rfl, rfl, hO3, hB8⟩
            case measure => simp [intOf]; omega
        · as_aux_lemma =>
            go_wp2_with fail
            refine (local_any a true c false wr).mono ?_
            rintro e w5 ⟨rfl, hB5⟩
            have hO2 := (out_keep hB5 HO.out (heap_lt HO.out)).put (false) (true) (c)
            have hlt5 := (out_keep hB5 HO.out (heap_lt HO.out)).lt
            obtain ⟨-, hz⟩ := (out_keep hB5 HO.out (heap_lt HO.out)).all
            have z0 := hz 0
            have z1 := hz 1
            have z2 := hz 2
            obtain ⟨⟨k0, k1, k2⟩, -⟩ := (out_keep hB5 HO.out (heap_lt HO.out)).all
            have hB6 := out_below (hB.trans (hB5.mono hB.size)) HS.out (.bool (false)) (.bool (true)) (.bool (c))
            have hi := is_any (false) (true) (c) (((w5.setCell ⟨p, 0, none⟩ (.bool (false))).setCell ⟨p, 1, none⟩ (.bool (true))).setCell ⟨p, 2, none⟩ (.bool (c)))
            clear hz hB5
            go_wp2_with fail
            refine hi.mono ?_
            rintro e w6 ⟨rfl, hB7⟩
            have hO3 := out_keep hB7 hO2 hO2.lt
            have hB8 := hB6.trans (hB7.mono hB6.size)
            clear hi hO2 hB6 hB7 hB hq
            go_wp2
            go_roundw
            case rel => exact ⟨k + 1, false, true, c, by omega, by go_num, rfl, rfl, rfl, hO3, hB8⟩
            case measure => simp [intOf]; omega
      · rcases c with _ | _ <;> rcases a with _ | _
        · as_aux_lemma =>
            go_wp2_with fail
            refine (remote_any false b false true wr).mono ?_
            rintro e w5 ⟨rfl, hB5⟩
            have hO2 := (out_keep hB5 HO.out (heap_lt HO.out)).put (false) (true) (true)
            have hlt5 := (out_keep hB5 HO.out (heap_lt HO.out)).lt
            obtain ⟨-, hz⟩ := (out_keep hB5 HO.out (heap_lt HO.out)).all
            have z0 := hz 0
            have z1 := hz 1
            have z2 := hz 2
            obtain ⟨⟨k0, k1, k2⟩, -⟩ := (out_keep hB5 HO.out (heap_lt HO.out)).all
            have hB6 := out_below (hB.trans (hB5.mono hB.size)) HS.out (.bool (false)) (.bool (true)) (.bool (true))
            have hi := is_any (false) (true) (true) (((w5.setCell ⟨p, 0, none⟩ (.bool (false))).setCell ⟨p, 1, none⟩ (.bool (true))).setCell ⟨p, 2, none⟩ (.bool (true)))
            clear hz hB5
            go_wp2_with fail
            refine hi.mono ?_
            rintro e w6 ⟨rfl, hB7⟩
            have hO3 := out_keep hB7 hO2 hO2.lt
            have hB8 := hB6.trans (hB7.mono hB6.size)
            clear hi hO2 hB6 hB7 hB hq
            go_wp2
            go_roundw
            case rel => exact ⟨k + 1, false, true, true, by omega, by go_num, rfl, rfl, rfl, hO3, hB8⟩
            case measure => simp [intOf]; omega
        · as_aux_lemma =>
            go_wp2_with fail
            refine (remote_any true b false true wr).mono ?_
            rintro e w5 ⟨rfl, hB5⟩
            have hO2 := (out_keep hB5 HO.out (heap_lt HO.out)).put (true) (true) (true)
            have hlt5 := (out_keep hB5 HO.out (heap_lt HO.out)).lt
            obtain ⟨-, hz⟩ := (out_keep hB5 HO.out (heap_lt HO.out)).all
            have z0 := hz 0
            have z1 := hz 1
            have z2 := hz 2
            obtain ⟨⟨k0, k1, k2⟩, -⟩ := (out_keep hB5 HO.out (heap_lt HO.out)).all
            have hB6 := out_below (hB.trans (hB5.mono hB.size)) HS.out (.bool (true)) (.bool (true)) (.bool (true))
            have hi := is_any (true) (true) (true) (((w5.setCell ⟨p, 0, none⟩ (.bool (true))).setCell ⟨p, 1, none⟩ (.bool (true))).setCell ⟨p, 2, none⟩ (.bool (true)))
            clear hz hB5
            go_wp2_with fail
            refine hi.mono ?_
            rintro e w6 ⟨rfl, hB7⟩
            have hO3 := out_keep hB7 hO2 hO2.lt
            have hB8 := hB6.trans (hB7.mono hB6.size)
            clear hi hO2 hB6 hB7 hB hq
            go_wp2
            go_roundw
            case rel => exact ⟨k + 1, true, true, true, by omega, by go_num, rfl, rfl, rfl, hO3, hB8⟩
            case measure => simp [intOf]; omega
        · as_aux_lemma =>
            go_wp2_with fail
            refine (remote_any false b true true wr).mono ?_
            rintro e w5 ⟨rfl, hB5⟩
            have hO2 := (out_keep hB5 HO.out (heap_lt HO.out)).put (false) (true) (true)
            have hlt5 := (out_keep hB5 HO.out (heap_lt HO.out)).lt
            obtain ⟨-, hz⟩ := (out_keep hB5 HO.out (heap_lt HO.out)).all
            have z0 := hz 0
            have z1 := hz 1
            have z2 := hz 2
            obtain ⟨⟨k0, k1, k2⟩, -⟩ := (out_keep hB5 HO.out (heap_lt HO.out)).all
            have hB6 := out_below (hB.trans (hB5.mono hB.size)) HS.out (.bool (false)) (.bool (true)) (.bool (true))
            have hi := is_any (false) (true) (true) (((w5.setCell ⟨p, 0, none⟩ (.bool (false))).setCell ⟨p, 1, none⟩ (.bool (true))).setCell ⟨p, 2, none⟩ (.bool (true)))
            clear hz hB5
            go_wp2_with fail
            refine hi.mono ?_
            rintro e w6 ⟨rfl, hB7⟩
            have hO3 := out_keep hB7 hO2 hO2.lt
            have hB8 := hB6.trans (hB7.mono hB6.size)
            clear hi hO2 hB6 hB7 hB hq
            go_wp2
            go_roundw
            case rel => exact ⟨k + 1, false, true, true, by omega, by go_num, rfl, rfl, rfl, hO3, hB8⟩
            case measure => simp [intOf]; omega
        · as_aux_lemma =>
            go_wp2_with fail
            refine (remote_any true b true true wr).mono ?_
            rintro e w5 ⟨rfl, hB5⟩
            have hO2 := (out_keep hB5 HO.out (heap_lt HO.out)).put (true) (true) (true)
            have hlt5 := (out_keep hB5 HO.out (heap_lt HO.out)).lt
            obtain ⟨-, hz⟩ := (out_keep hB5 HO.out (heap_lt HO.out)).all
            have z0 := hz 0
            have z1 := hz 1
            have z2 := hz 2
            obtain ⟨⟨k0, k1, k2⟩, -⟩ := (out_keep hB5 HO.out (heap_lt HO.out)).all
            have hB6 := out_below (hB.trans (hB5.mono hB.size)) HS.out (.bool (true)) (.bool (true)) (.bool (true))
            have hi := is_any (true) (true) (true) (((w5.setCell ⟨p, 0, none⟩ (.bool (true))).setCell ⟨p, 1, none⟩ (.bool (true))).setCell ⟨p, 2, none⟩ (.bool (true)))
            clear hz hB5
            go_wp2_with fail
            refine hi.mono ?_
            rintro e w6 ⟨rfl, hB7⟩
            have hO3 := out_keep hB7 hO2 hO2.lt
            have hB8 := hB6.trans (hB7.mono hB6.size)
            clear hi hO2 hB6 hB7 hB hq
            go_wp2
            go_roundw
            case rel => exact ⟨k + 1, true, true, true, by omega, by go_num, rfl, rfl, rfl, hO3, hB8⟩
            case measure => simp [intOf]; omega
      · rcases c with _ | _ <;> rcases a with _ | _
        · as_aux_lemma =>
            go_wp2_with fail
            refine (remote_any false b false false wr).mono ?_
            rintro e w5 ⟨rfl, hB5⟩
            have hO2 := (out_keep hB5 HO.out (heap_lt HO.out)).put (false) (false) (false)
            have hlt5 := (out_keep hB5 HO.out (heap_lt HO.out)).lt
            obtain ⟨-, hz⟩ := (out_keep hB5 HO.out (heap_lt HO.out)).all
            have z0 := hz 0
            have z1 := hz 1
            have z2 := hz 2
            obtain ⟨⟨k0, k1, k2⟩, -⟩ := (out_keep hB5 HO.out (heap_lt HO.out)).all
            have hB6 := out_below (hB.trans (hB5.mono hB.size)) HS.out (.bool (false)) (.bool (false)) (.bool (false))
            have hi := is_any (false) (false) (false) (((w5.setCell ⟨p, 0, none⟩ (.bool (false))).setCell ⟨p, 1, none⟩ (.bool (false))).setCell ⟨p, 2, none⟩ (.bool (false)))
            clear hz hB5
            go_wp2_with fail
            refine hi.mono ?_
            rintro e w6 ⟨rfl, hB7⟩
            have hO3 := out_keep hB7 hO2 hO2.lt
            have hB8 := hB6.trans (hB7.mono hB6.size)
            clear hi hO2 hB6 hB7 hB hq
            go_wp2
            go_roundw
            case rel => exact ⟨k + 1, false, false, false, by omega, by go_num, rfl, rfl, rfl, hO3, hB8⟩
            case measure => simp [intOf]; omega
        · as_aux_lemma =>
            go_wp2_with fail
            refine (remote_any true b false false wr).mono ?_
            rintro e w5 ⟨rfl, hB5⟩
            have hO2 := (out_keep hB5 HO.out (heap_lt HO.out)).put (true) (false) (false)
            have hlt5 := (out_keep hB5 HO.out (heap_lt HO.out)).lt
            obtain ⟨-, hz⟩ := (out_keep hB5 HO.out (heap_lt HO.out)).all
            have z0 := hz 0
            have z1 := hz 1
            have z2 := hz 2
            obtain ⟨⟨k0, k1, k2⟩, -⟩ := (out_keep hB5 HO.out (heap_lt HO.out)).all
            have hB6 := out_below (hB.trans (hB5.mono hB.size)) HS.out (.bool (true)) (.bool (false)) (.bool (false))
            have hi := is_any (true) (false) (false) (((w5.setCell ⟨p, 0, none⟩ (.bool (true))).setCell ⟨p, 1, none⟩ (.bool (false))).setCell ⟨p, 2, none⟩ (.bool (false)))
            clear hz hB5
            go_wp2_with fail
            refine hi.mono ?_
            rintro e w6 ⟨rfl, hB7⟩
            have hO3 := out_keep hB7 hO2 hO2.lt
            have hB8 := hB6.trans (hB7.mono hB6.size)
            clear hi hO2 hB6 hB7 hB hq
            go_wp2
            go_roundw
            case rel => exact ⟨k + 1, true, false, false, by omega, by go_num, rfl, rfl, rfl, hO3, hB8⟩
            case measure => simp [intOf]; omega
        · as_aux_lemma =>
            go_wp2_with fail
            refine (remote_any false b true false wr).mono ?_
            rintro e w5 ⟨rfl, hB5⟩
            have hO2 := (out_keep hB5 HO.out (heap_lt HO.out)).put (false) (false) (true)
            have hlt5 := (out_keep hB5 HO.out (heap_lt HO.out)).lt
            obtain ⟨-, hz⟩ := (out_keep hB5 HO.out (heap_lt HO.out)).all
            have z0 := hz 0
            have z1 := hz 1
            have z2 := hz 2
            obtain ⟨⟨k0, k1, k2⟩, -⟩ := (out_keep hB5 HO.out (heap_lt HO.out)).all
            have hB6 := out_below (hB.trans (hB5.mono hB.size)) HS.out (.bool (false)) (.bool (false)) (.bool (true))
            have hi := is_any (false) (false) (true) (((w5.setCell ⟨p, 0, none⟩ (.bool (false))).setCell ⟨p, 1, none⟩ (.bool (false))).setCell ⟨p, 2, none⟩ (.bool (true)))
            clear hz hB5
            go_wp2_with fail
            refine hi.mono ?_
            rintro e w6 ⟨rfl, hB7⟩
            have hO3 := out_keep hB7 hO2 hO2.lt
            have hB8 := hB6.trans (hB7.mono hB6.size)
            clear hi hO2 hB6 hB7 hB hq
            go_wp2
            go_roundw
            case rel => exact ⟨k + 1, false, false, true, by omega, by go_num, rfl, rfl, rfl, hO3, hB8⟩
            case measure => simp [intOf]; omega
        · as_aux_lemma =>
            go_wp2_with fail
            refine (remote_any true b true false wr).mono ?_
            rintro e w5 ⟨rfl, hB5⟩
            have hO2 := (out_keep hB5 HO.out (heap_lt HO.out)).put (true) (false) (true)
            have hlt5 := (out_keep hB5 HO.out (heap_lt HO.out)).lt
            obtain ⟨-, hz⟩ := (out_keep hB5 HO.out (heap_lt HO.out)).all
            have z0 := hz 0
            have z1 := hz 1
            have z2 := hz 2
            obtain ⟨⟨k0, k1, k2⟩, -⟩ := (out_keep hB5 HO.out (heap_lt HO.out)).all
            have hB6 := out_below (hB.trans (hB5.mono hB.size)) HS.out (.bool (true)) (.bool (false)) (.bool (true))
            have hi := is_any (true) (false) (true) (((w5.setCell ⟨p, 0, none⟩ (.bool (true))).setCell ⟨p, 1, none⟩ (.bool (false))).setCell ⟨p, 2, none⟩ (.bool (true)))
            clear hz hB5
            go_wp2_with fail
            refine hi.mono ?_
            rintro e w6 ⟨rfl, hB7⟩
            have hO3 := out_keep hB7 hO2 hO2.lt
            have hB8 := hB6.trans (hB7.mono hB6.size)
            clear hi hO2 hB6 hB7 hB hq
            go_wp2
            go_roundw
            case rel => exact ⟨k + 1, true, false, true, by omega, by go_num, rfl, rfl, rfl, hO3, hB8⟩
            case measure => simp [intOf]; omega
      · rcases a with _ | _ <;> rcases b with _ | _
        · as_aux_lemma =>
            have hc : Calls Try.prog 12 #[.agg #[.bool false, .bool false, .bool c]] wr fun e w' => e = .returned (.tuple #[.agg #[.bool false, .bool false, .bool false], .bool true]) ∧ Below wr.heap.size wr w' := by
              have := cont_any false false c wr
              rwa [show goes false false = true from rfl, show (c && !true) = false by cases c <;> rfl] at this
            go_wp2_with fail
            refine hc.mono ?_
            rintro e w4 ⟨rfl, hB4⟩
            have hB5 := hB4.alloc hB4.size (.cells #[.bool false, .bool false, .bool false] 23)
            obtain ⟨w5, hw5⟩ : ∃ w5, w5 = w4.alloc (.cells #[.bool false, .bool false, .bool false] 23) := ⟨_, rfl⟩
            rw [← hw5] at hB5
            go_upto_region 14 with fail
            rw [← hw5]
            obtain ⟨⟨m0, m1, m2⟩, -⟩ := (show OutAt w5 w4.heap.size false false false by rw [hw5]; exact OutAt.new _ _ _ _).all
            generalize w4.heap.size = r at *
            clear hw5 hc hB4 w4
            have hO2 := (out_keep hB5 HO.out (heap_lt HO.out)).put (false) (false) (false)
            have hlt5 := (out_keep hB5 HO.out (heap_lt HO.out)).lt
            obtain ⟨-, hz⟩ := (out_keep hB5 HO.out (heap_lt HO.out)).all
            have z0 := hz 0
            have z1 := hz 1
            have z2 := hz 2
            obtain ⟨⟨k0, k1, k2⟩, -⟩ := (out_keep hB5 HO.out (heap_lt HO.out)).all
            have hB6 := out_below (hB.trans (hB5.mono hB.size)) HS.out (.bool (false)) (.bool (false)) (.bool (false))
            have hi := is_any (false) (false) (false) (((w5.setCell ⟨p, 0, none⟩ (.bool (false))).setCell ⟨p, 1, none⟩ (.bool (false))).setCell ⟨p, 2, none⟩ (.bool (false)))
            clear hz hB5
            go_wp2_with fail
            refine hi.mono ?_
            rintro e w6 ⟨rfl, hB7⟩
            have hO3 := out_keep hB7 hO2 hO2.lt
            have hB8 := hB6.trans (hB7.mono hB6.size)
            clear hi hO2 hB6 hB7 hB hq
            go_wp2
            go_roundw
            case rel => exact ⟨k + 1, false, false, false, by omega, by go_num, rfl, rfl, rfl, hO3, hB8⟩
            case measure => simp [intOf]; omega
        · as_aux_lemma =>
            have hc : Calls Try.prog 12 #[.agg #[.bool false, .bool true, .bool c]] wr fun e w' => e = .returned (.tuple #[.agg #[.bool false, .bool true, .bool c], .bool false]) ∧ Below wr.heap.size wr w' := by
              have := cont_any false true c wr
              rwa [show goes false true = false from rfl, show (c && !false) = c by cases c <;> rfl] at this
            go_wp2_with fail
            refine hc.mono ?_
            rintro e w4 ⟨rfl, hB4⟩
            have hB5 := hB4.alloc hB4.size (.cells #[.bool false, .bool true, .bool c] 23)
            obtain ⟨w5, hw5⟩ : ∃ w5, w5 = w4.alloc (.cells #[.bool false, .bool true, .bool c] 23) := ⟨_, rfl⟩
            rw [← hw5] at hB5
            go_upto_region 14 with fail
            rw [← hw5]
            obtain ⟨⟨m0, m1, m2⟩, -⟩ := (show OutAt w5 w4.heap.size false true c by rw [hw5]; exact OutAt.new _ _ _ _).all
            generalize w4.heap.size = r at *
            clear hw5 hc hB4 w4
            have hO2 := (out_keep hB5 HO.out (heap_lt HO.out)).put (false) (true) (c)
            have hlt5 := (out_keep hB5 HO.out (heap_lt HO.out)).lt
            obtain ⟨-, hz⟩ := (out_keep hB5 HO.out (heap_lt HO.out)).all
            have z0 := hz 0
            have z1 := hz 1
            have z2 := hz 2
            obtain ⟨⟨k0, k1, k2⟩, -⟩ := (out_keep hB5 HO.out (heap_lt HO.out)).all
            have hB6 := out_below (hB.trans (hB5.mono hB.size)) HS.out (.bool (false)) (.bool (true)) (.bool (c))
            have hi := is_any (false) (true) (c) (((w5.setCell ⟨p, 0, none⟩ (.bool (false))).setCell ⟨p, 1, none⟩ (.bool (true))).setCell ⟨p, 2, none⟩ (.bool (c)))
            clear hz hB5
            go_wp2_with fail
            refine hi.mono ?_
            rintro e w6 ⟨rfl, hB7⟩
            have hO3 := out_keep hB7 hO2 hO2.lt
            have hB8 := hB6.trans (hB7.mono hB6.size)
            clear hi hO2 hB6 hB7 hB hq
            go_wp2
            go_roundw
            case rel => exact ⟨k + 1, false, true, c, by omega, by go_num, rfl, rfl, rfl, hO3, hB8⟩
            case measure => simp [intOf]; omega
        · as_aux_lemma =>
            have hc : Calls Try.prog 12 #[.agg #[.bool true, .bool false, .bool c]] wr fun e w' => e = .returned (.tuple #[.agg #[.bool true, .bool false, .bool c], .bool false]) ∧ Below wr.heap.size wr w' := by
              have := cont_any true false c wr
              rwa [show goes true false = false from rfl, show (c && !false) = c by cases c <;> rfl] at this
            go_wp2_with fail
            refine hc.mono ?_
            rintro e w4 ⟨rfl, hB4⟩
            have hB5 := hB4.alloc hB4.size (.cells #[.bool true, .bool false, .bool c] 23)
            obtain ⟨w5, hw5⟩ : ∃ w5, w5 = w4.alloc (.cells #[.bool true, .bool false, .bool c] 23) := ⟨_, rfl⟩
            rw [← hw5] at hB5
            go_upto_region 14 with fail
            rw [← hw5]
            obtain ⟨⟨m0, m1, m2⟩, -⟩ := (show OutAt w5 w4.heap.size true false c by rw [hw5]; exact OutAt.new _ _ _ _).all
            generalize w4.heap.size = r at *
            clear hw5 hc hB4 w4
            have hO2 := (out_keep hB5 HO.out (heap_lt HO.out)).put (true) (false) (c)
            have hlt5 := (out_keep hB5 HO.out (heap_lt HO.out)).lt
            obtain ⟨-, hz⟩ := (out_keep hB5 HO.out (heap_lt HO.out)).all
            have z0 := hz 0
            have z1 := hz 1
            have z2 := hz 2
            obtain ⟨⟨k0, k1, k2⟩, -⟩ := (out_keep hB5 HO.out (heap_lt HO.out)).all
            have hB6 := out_below (hB.trans (hB5.mono hB.size)) HS.out (.bool (true)) (.bool (false)) (.bool (c))
            have hi := is_any (true) (false) (c) (((w5.setCell ⟨p, 0, none⟩ (.bool (true))).setCell ⟨p, 1, none⟩ (.bool (false))).setCell ⟨p, 2, none⟩ (.bool (c)))
            clear hz hB5
            go_wp2_with fail
            refine hi.mono ?_
            rintro e w6 ⟨rfl, hB7⟩
            have hO3 := out_keep hB7 hO2 hO2.lt
            have hB8 := hB6.trans (hB7.mono hB6.size)
            clear hi hO2 hB6 hB7 hB hq
            go_wp2
            go_roundw
            case rel => exact ⟨k + 1, true, false, c, by omega, by go_num, rfl, rfl, rfl, hO3, hB8⟩
            case measure => simp [intOf]; omega
        · as_aux_lemma =>
            have hc : Calls Try.prog 12 #[.agg #[.bool true, .bool true, .bool c]] wr fun e w' => e = .returned (.tuple #[.agg #[.bool true, .bool true, .bool c], .bool false]) ∧ Below wr.heap.size wr w' := by
              have := cont_any true true c wr
              rwa [show goes true true = false from rfl, show (c && !false) = c by cases c <;> rfl] at this
            go_wp2_with fail
            refine hc.mono ?_
            rintro e w4 ⟨rfl, hB4⟩
            have hB5 := hB4.alloc hB4.size (.cells #[.bool true, .bool true, .bool c] 23)
            obtain ⟨w5, hw5⟩ : ∃ w5, w5 = w4.alloc (.cells #[.bool true, .bool true, .bool c] 23) := ⟨_, rfl⟩
            rw [← hw5] at hB5
            go_upto_region 14 with fail
            rw [← hw5]
            obtain ⟨⟨m0, m1, m2⟩, -⟩ := (show OutAt w5 w4.heap.size true true c by rw [hw5]; exact OutAt.new _ _ _ _).all
            generalize w4.heap.size = r at *
            clear hw5 hc hB4 w4
            have hO2 := (out_keep hB5 HO.out (heap_lt HO.out)).put (true) (true) (c)
            have hlt5 := (out_keep hB5 HO.out (heap_lt HO.out)).lt
            obtain ⟨-, hz⟩ := (out_keep hB5 HO.out (heap_lt HO.out)).all
            have z0 := hz 0
            have z1 := hz 1
            have z2 := hz 2
            obtain ⟨⟨k0, k1, k2⟩, -⟩ := (out_keep hB5 HO.out (heap_lt HO.out)).all
            have hB6 := out_below (hB.trans (hB5.mono hB.size)) HS.out (.bool (true)) (.bool (true)) (.bool (c))
            have hi := is_any (true) (true) (c) (((w5.setCell ⟨p, 0, none⟩ (.bool (true))).setCell ⟨p, 1, none⟩ (.bool (true))).setCell ⟨p, 2, none⟩ (.bool (c)))
            clear hz hB5
            go_wp2_with fail
            refine hi.mono ?_
            rintro e w6 ⟨rfl, hB7⟩
            have hO3 := out_keep hB7 hO2 hO2.lt
            have hB8 := hB6.trans (hB7.mono hB6.size)
            clear hi hO2 hB6 hB7 hB hq
            go_wp2
            go_roundw
            case rel => exact ⟨k + 1, true, true, c, by omega, by go_num, rfl, rfl, rfl, hO3, hB8⟩
            case measure => simp [intOf]; omega
    · go_wp2
      go_ret
      exact ⟨rfl, hB⟩

theorem outplays_walk (ao : Option Addr) (n cap : Nat) (xs : List Int) (w : World) (hm : n ≤ maxLen) (hn : n = xs.length) (hr : Reads w ao (xs.map (.int .u8))) (hx : ∀ x ∈ xs, 0 ≤ x ∧ x ≤ 255) :
    Calls Try.prog 4 #[.slice ao n cap] w fun e w' => e = .returned (.bool true) ∧ Below w.heap.size w w' := by
  by_cases hl : 100 < n
  · exact outplays_long ao n cap w hm hl
  · exact outplays_short ao n cap xs w (by omega) hn.symm hr hx
end Go.Proofs.Yteemfdbhcehfgaa.Tape
