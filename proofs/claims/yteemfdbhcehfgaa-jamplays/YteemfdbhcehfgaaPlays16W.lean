/- The walk of the law JamPlays. -/
import Derived.Test.YteemfdbhcehfgaaPlays16A
import Derived.Deep.QuietTactic
import Derived.BigQuiet
import Derived.Deep.CutBlock
namespace Go.Proofs.Yteemfdbhcehfgaa.Tape
open Go.ChangeShapes Go.WideShapes Go.ChangeAt Go.RowKit
set_option linter.unusedVariables false

set_option maxRecDepth 100000 in
set_option maxHeartbeats 1000000 in
theorem plays16_long (ao : Option Addr) (n cap : Nat) (w : World) (hm : n ≤ maxLen) (hl : 100 < n) :
    Calls Try.prog 6 #[.slice ao n cap] w fun e w' => e = .returned (.bool true) ∧ Below w.heap.size w w' := by
  unfold maxLen at hm
  go_enter Try.func6, Try.ntmps6
  go_wp2_with fail
  refine (awake16_any _).mono ?_
  rintro e w1 ⟨rfl, hb1⟩
  go_wp2_with fail
  refine (awake16_any _).mono ?_
  rintro e w2 ⟨rfl, hb2⟩
  go_wp2
  go_ret
  exact ⟨rfl, hb1.trans (hb2.mono hb1.size)⟩

set_option maxRecDepth 100000 in
set_option maxHeartbeats 4000000 in
theorem plays16_short (ao : Option Addr) (n cap : Nat) (w : World) (hl : n ≤ 100) (ha : Acts w ao n) :
    Calls Try.prog 6 #[.slice ao n cap] w fun e w' => e = .returned (.bool true) ∧ Below w.heap.size w w' := by
  have HA : Hid (Acts w ao n) := ha
  clear ha
  have e100 : decide ((100 : Int) < (n : Int)) = false := decide_eq_false (by omega)
  go_enter Try.func6, Try.ntmps6
  go_wp2_with fail
  refine (awake16_any _).mono ?_
  rintro e w1 ⟨rfl, hB1⟩
  go_wp2_with fail
  refine (usual_any false _).mono ?_
  rintro e w2 ⟨rfl, hU⟩
  have hB2 := hB1.trans (hU.mono hB1.size)
  clear hU hB1 e100
  go_wp2_with fail
  obtain ⟨hBW, hcW, -, hsz⟩ := set_clock hB2 tP
  obtain ⟨W, hW⟩ : ∃ W, W = ((w2.alloc (.cells (setC tP) 35)).alloc (.cells #[.int .i64 0, .int .i64 0, .int .i64 0, .int .i64 0, .int .i64 0, .int .i64 0, .int .i64 0, .int .i64 0] 39)) := ⟨_, rfl⟩
  rw [← hW] at hBW hcW
  have hnw := janew_any (w2.heap.size + 1) false 8 300 16 600 tP (List.replicate 8 0) W hcW tP_ok
  have HW : Hid (Below w.heap.size w W ∧ w.heap.size ≤ w2.heap.size + 1) := ⟨hBW, by omega⟩
  clear hB2 hBW hcW hsz
  subst hW
  refine hnw.mono ?_
  rintro e w3 ⟨b, rfl, hb, hJ3, hB3⟩
  have hB4 := HW.out.1.trans (hB3.mono HW.out.1.size)
  have HC : Hid (w.heap.size ≤ b ∧ w.heap.size ≤ w2.heap.size + 1 ∧ w.heap.size ≤ w3.heap.size ∧ w3.heap.size ≠ b ∧ w3.heap.size ≠ w2.heap.size + 1) := by
    have h := HW.out
    have h1 := h.1.size
    have h2 := hJ3.lt
    exact ⟨by omega, h.2, hB4.size, by omega, by omega⟩
  have hL3 := LeftAt.new w3
  have hb3 := (Below.refl w3.heap.size w3).alloc (Nat.le_refl _) (.cells #[.int .i64 0, .int .i64 0, .int .i64 0, .int .i64 0, .int .i64 0, .int .i64 0, .int .i64 0, .int .i64 0] 33)
  have hJ4 := hJ3.keep hb3
  have hB5 := hB4.trans (hb3.mono hB4.size)
  clear hnw hb hJ3 hB3 HW hB4 hb3
  go_wp2_with fail
  generalize w2.heap.size + 1 = c at *
  generalize w3.heap.size = g at *
  go_loopw [6, 7, 8, 10] (fun oo tt dd i wr => ∃ (k : Nat) (o t d : Bool) (xs : List Int), k ≤ n ∧ i = .int .i64 k ∧ oo = .bool o ∧ tt = .bool t ∧ dd = .bool d ∧ JamAt wr b c (JP o t d xs) ∧ LeftAt wr g xs ∧ Below w.heap.size w wr) (fun _ _ _ i _ => n - (intOf i).toNat)
  case atStart => exact ⟨0, false, false, false, List.replicate 8 0, by omega, rfl, rfl, rfl, rfl, hJ4, hL3, hB5⟩
  case round =>
    clear hJ4 hL3 hB5
    obtain ⟨k, o, t, d, xs, hk, rfl, rfl, rfl, rfl, hJ, hL, hB⟩ := hrel
    by_cases hlt : k < n
    · obtain ⟨ga, off, rfl, K, X, a0, a1, ⟨K0, K1⟩, X0, X1⟩ := (HA.out.below hB) k hlt
      have hKm : K.tmod 12 = K % 12 := Int.tmod_eq_emod_of_nonneg K0
      obtain ⟨q, hq⟩ : ∃ q, K % 12 = q := ⟨_, rfl⟩
      have hq0 : 0 ≤ q ∧ q < 12 := by omega
      have hbW := (Below.refl wr.heap.size wr).alloc (Nat.le_refl _) (.cells #[.int .u8 K, .int .u8 X] 43)
      have hJW := hJ.keep hbW
      have hLW := hL.keep hbW
      have hBW := hB.trans (hbW.mono hB.size)
      have x1 : (wr.alloc (.cells #[.int .u8 K, .int .u8 X] 43)).cell? ⟨wr.heap.size, 1, none⟩ = some (.int .u8 X) := by
        rw [Lib.cell_of_heap (heap_alloc_new wr _)]; rfl
      go_upto_block 2 with fail
      obtain ⟨W, hW⟩ : ∃ W, W = wr.alloc (.cells #[.int .u8 K, .int .u8 X] 43) := ⟨_, rfl⟩
      rw [← hW] at hJW hLW hBW x1
      rw [← hW]
      generalize wr.heap.size = ab at *
      clear hW hbW hJ hL hB a0 a1
      have HJ : Hid (JamAt W b c (JP o t d xs)) := hJW
      have HL : Hid (LeftAt W g xs) := hLW
      have HB : Hid (Below w.heap.size w W) := hBW
      clear hJW hLW hBW
      have hX2 : X.tmod 2 = X % 2 := Int.tmod_eq_emod_of_nonneg X0
      have hX4 : X.tmod 4 = X % 4 := Int.tmod_eq_emod_of_nonneg X0
      go_cut [6, 7, 8, 13, 14, 15, 16, 17] from 45 to 193 (fun oo tt dd _ _ _ _ _ wc => ∃ (o t d : Bool) (xs : List Int), oo = .bool o ∧ tt = .bool t ∧ dd = .bool d ∧ JamAt wc b c (JP o t d xs) ∧ LeftAt wc g xs ∧ Below w.heap.size w wc)
      case first =>
        clear HA hKm hlt
        have hqc : q = 0 ∨ q = 1 ∨ q = 2 ∨ q = 3 ∨ q = 4 ∨ q = 5 ∨ q = 6 ∨ q = 7 ∨ 8 ≤ q := by omega
        rcases hqc with h | h | h | h | h | h | h | h | h
        · subst h
          clear hq hq0
          rcases o with _ | _
          · as_aux_lemma =>
              have hc := begin_ja b c _ W HJ.out
              rw [jp_begin_f] at hc
              go_wp2_with fail
              refine hc.mono ?_
              rintro e w5 ⟨rfl, hJ5, hF5⟩
              have hL5 := HL.out.fr hF5 HC.out.2.2.2
              have hB5 := HB.out.trans (hF5.below HC.out.1 HC.out.2.1 HB.out.size)
              clear hc hF5
              obtain ⟨l5, z5⟩ := hL5.cell 5 (by omega)
              go_wp2
              go_meet
              case rel => exact ⟨true, t, true, xs.set 5 7, rfl, rfl, rfl, (hJ5.left HC.out.2.2.2 5 _), (hL5.put 5 7), (hB5.setCell HC.out.2.2.1 _)⟩
          · as_aux_lemma =>
              have hc := begin_ja b c _ W HJ.out
              rw [jp_begin_t] at hc
              go_wp2_with fail
              refine hc.mono ?_
              rintro e w5 ⟨rfl, hJ5, hF5⟩
              have hL5 := HL.out.fr hF5 HC.out.2.2.2
              have hB5 := HB.out.trans (hF5.below HC.out.1 HC.out.2.1 HB.out.size)
              clear hc hF5
              go_wp2
              go_meet
              case rel => exact ⟨true, t, d, xs, rfl, rfl, rfl, hJ5, hL5, hB5⟩
        · subst h
          clear hq hq0
          · as_aux_lemma =>
              have hc := end_ja b c _ W HJ.out
              rw [jp_end] at hc
              go_wp2_with fail
              refine hc.mono ?_
              rintro e w5 ⟨rfl, hJ5, hF5⟩
              have hL5 := HL.out.fr hF5 HC.out.2.2.2
              have hB5 := HB.out.trans (hF5.below HC.out.1 HC.out.2.1 HB.out.size)
              clear hc hF5
              obtain ⟨l5, z5⟩ := hL5.cell 5 (by omega)
              go_wp2
              go_meet
              case rel => exact ⟨false, t, false, xs.set 5 0, rfl, rfl, rfl, (hJ5.left HC.out.2.2.2 5 _), (hL5.put 5 0), (hB5.setCell HC.out.2.2.1 _)⟩
        · subst h
          clear hq hq0
          · as_aux_lemma =>
              have hc := due_ja b c _ W HJ.out
              rw [jp_told, show (JP o t d xs).due = d from rfl] at hc
              go_wp2_with fail
              refine hc.mono ?_
              rintro e w5 ⟨rfl, hJ5, hF5⟩
              have hL5 := HL.out.fr hF5 HC.out.2.2.2
              have hB5 := HB.out.trans (hF5.below HC.out.1 HC.out.2.1 HB.out.size)
              clear hc hF5
              have hdd : (d != d) = false := by simp
              go_wp2
              go_meet
              case rel => exact ⟨o, t, false, xs, rfl, rfl, rfl, hJ5, hL5, hB5⟩
        · subst h
          clear hq hq0
          · as_aux_lemma =>
              have hc := due_ja b c _ W HJ.out
              rw [jp_told, show (JP o t d xs).due = d from rfl] at hc
              go_wp2_with fail
              refine hc.mono ?_
              rintro e w5 ⟨rfl, hJ5, hF5⟩
              have hL5 := HL.out.fr hF5 HC.out.2.2.2
              have hB5 := HB.out.trans (hF5.below HC.out.1 HC.out.2.1 HB.out.size)
              clear hc hF5
              have hdd : (d != d) = false := by simp
              go_wp2
              go_meet
              case rel => exact ⟨o, t, false, xs, rfl, rfl, rfl, hJ5, hL5, hB5⟩
        · subst h
          clear hq hq0
          rcases (show X % 2 = 0 ∨ X % 2 = 1 by omega) with hX | hX <;> rcases t with _ | _
          · as_aux_lemma =>
              have hx : X % 2 = 0 := hX
              clear hX
              have hc := heard_ja b c _ true W HJ.out
              rw [jp_heard_ft, show (JP o false d xs).their = false from rfl] at hc
              go_wp2_with fail
              refine hc.mono ?_
              rintro e w5 ⟨rfl, hJ5, hF5⟩
              have hL5 := HL.out.fr hF5 HC.out.2.2.2
              have hB5 := HB.out.trans (hF5.below HC.out.1 HC.out.2.1 HB.out.size)
              clear hc hF5
              obtain ⟨l7, z7⟩ := hL5.cell 7 (by omega)
              obtain ⟨l6, z6⟩ := hL5.cell 6 (by omega)
              obtain ⟨l6', z6'⟩ := (hL5.put 7 20).cell 6 (by omega)
              clear l6 z6
              go_wp2
              go_meet
              case rel => exact ⟨o, true, d, (xs.set 7 20).set 6 30, rfl, rfl, rfl, ((hJ5.left HC.out.2.2.2 7 _).left HC.out.2.2.2 6 _), ((hL5.put 7 20).put 6 30), ((hB5.setCell HC.out.2.2.1 _).setCell HC.out.2.2.1 _)⟩
          · as_aux_lemma =>
              have hx : X % 2 = 0 := hX
              clear hX
              have hc := heard_ja b c _ true W HJ.out
              rw [jp_heard_tt, show (JP o true d xs).their = true from rfl] at hc
              go_wp2_with fail
              refine hc.mono ?_
              rintro e w5 ⟨rfl, hJ5, hF5⟩
              have hL5 := HL.out.fr hF5 HC.out.2.2.2
              have hB5 := HB.out.trans (hF5.below HC.out.1 HC.out.2.1 HB.out.size)
              clear hc hF5
              obtain ⟨l7, z7⟩ := hL5.cell 7 (by omega)
              go_wp2
              go_meet
              case rel => exact ⟨o, true, d, xs.set 7 20, rfl, rfl, rfl, (hJ5.left HC.out.2.2.2 7 _), (hL5.put 7 20), (hB5.setCell HC.out.2.2.1 _)⟩
          · as_aux_lemma =>
              have hx : X % 2 = 1 := hX
              clear hX
              have hc := heard_ja b c _ false W HJ.out
              rw [jp_heard_ff, show (JP o false d xs).their = false from rfl] at hc
              go_wp2_with fail
              refine hc.mono ?_
              rintro e w5 ⟨rfl, hJ5, hF5⟩
              have hL5 := HL.out.fr hF5 HC.out.2.2.2
              have hB5 := HB.out.trans (hF5.below HC.out.1 HC.out.2.1 HB.out.size)
              clear hc hF5
              obtain ⟨l6, z6⟩ := hL5.cell 6 (by omega)
              go_wp2
              go_meet
              case rel => exact ⟨o, true, d, (xs).set 6 30, rfl, rfl, rfl, (hJ5.left HC.out.2.2.2 6 _), (hL5.put 6 30), (hB5.setCell HC.out.2.2.1 _)⟩
          · as_aux_lemma =>
              have hx : X % 2 = 1 := hX
              clear hX
              have hc := heard_ja b c _ false W HJ.out
              rw [jp_heard_tf, show (JP o true d xs).their = true from rfl] at hc
              go_wp2_with fail
              refine hc.mono ?_
              rintro e w5 ⟨rfl, hJ5, hF5⟩
              have hL5 := HL.out.fr hF5 HC.out.2.2.2
              have hB5 := HB.out.trans (hF5.below HC.out.1 HC.out.2.1 HB.out.size)
              clear hc hF5
              go_wp2
              go_meet
              case rel => exact ⟨o, true, d, xs, rfl, rfl, rfl, hJ5, hL5, hB5⟩
        · subst h
          clear hq hq0
          rcases (show X % 2 = 0 ∨ X % 2 = 1 by omega) with hX | hX <;> rcases t with _ | _
          · as_aux_lemma =>
              have hx : X % 2 = 0 := hX
              clear hX
              have hc := heard_ja b c _ true W HJ.out
              rw [jp_heard_ft, show (JP o false d xs).their = false from rfl] at hc
              go_wp2_with fail
              refine hc.mono ?_
              rintro e w5 ⟨rfl, hJ5, hF5⟩
              have hL5 := HL.out.fr hF5 HC.out.2.2.2
              have hB5 := HB.out.trans (hF5.below HC.out.1 HC.out.2.1 HB.out.size)
              clear hc hF5
              obtain ⟨l7, z7⟩ := hL5.cell 7 (by omega)
              obtain ⟨l6, z6⟩ := hL5.cell 6 (by omega)
              obtain ⟨l6', z6'⟩ := (hL5.put 7 20).cell 6 (by omega)
              clear l6 z6
              go_wp2
              go_meet
              case rel => exact ⟨o, true, d, (xs.set 7 20).set 6 30, rfl, rfl, rfl, ((hJ5.left HC.out.2.2.2 7 _).left HC.out.2.2.2 6 _), ((hL5.put 7 20).put 6 30), ((hB5.setCell HC.out.2.2.1 _).setCell HC.out.2.2.1 _)⟩
          · as_aux_lemma =>
              have hx : X % 2 = 0 := hX
              clear hX
              have hc := heard_ja b c _ true W HJ.out
              rw [jp_heard_tt, show (JP o true d xs).their = true from rfl] at hc
              go_wp2_with fail
              refine hc.mono ?_
              rintro e w5 ⟨rfl, hJ5, hF5⟩
              have hL5 := HL.out.fr hF5 HC.out.2.2.2
              have hB5 := HB.out.trans (hF5.below HC.out.1 HC.out.2.1 HB.out.size)
              clear hc hF5
              obtain ⟨l7, z7⟩ := hL5.cell 7 (by omega)
              go_wp2
              go_meet
              case rel => exact ⟨o, true, d, xs.set 7 20, rfl, rfl, rfl, (hJ5.left HC.out.2.2.2 7 _), (hL5.put 7 20), (hB5.setCell HC.out.2.2.1 _)⟩
          · as_aux_lemma =>
              have hx : X % 2 = 1 := hX
              clear hX
              have hc := heard_ja b c _ false W HJ.out
              rw [jp_heard_ff, show (JP o false d xs).their = false from rfl] at hc
              go_wp2_with fail
              refine hc.mono ?_
              rintro e w5 ⟨rfl, hJ5, hF5⟩
              have hL5 := HL.out.fr hF5 HC.out.2.2.2
              have hB5 := HB.out.trans (hF5.below HC.out.1 HC.out.2.1 HB.out.size)
              clear hc hF5
              obtain ⟨l6, z6⟩ := hL5.cell 6 (by omega)
              go_wp2
              go_meet
              case rel => exact ⟨o, true, d, (xs).set 6 30, rfl, rfl, rfl, (hJ5.left HC.out.2.2.2 6 _), (hL5.put 6 30), (hB5.setCell HC.out.2.2.1 _)⟩
          · as_aux_lemma =>
              have hx : X % 2 = 1 := hX
              clear hX
              have hc := heard_ja b c _ false W HJ.out
              rw [jp_heard_tf, show (JP o true d xs).their = true from rfl] at hc
              go_wp2_with fail
              refine hc.mono ?_
              rintro e w5 ⟨rfl, hJ5, hF5⟩
              have hL5 := HL.out.fr hF5 HC.out.2.2.2
              have hB5 := HB.out.trans (hF5.below HC.out.1 HC.out.2.1 HB.out.size)
              clear hc hF5
              go_wp2
              go_meet
              case rel => exact ⟨o, true, d, xs, rfl, rfl, rfl, hJ5, hL5, hB5⟩
        · subst h
          clear hq hq0
          rcases t with _ | _
          · as_aux_lemma =>
              have hc := answer_ja b c _ W HJ.out
              rw [jp_answer_f, show (JP o false d xs).their = false from rfl] at hc
              go_wp2_with fail
              refine hc.mono ?_
              rintro e w5 ⟨rfl, hJ5, hF5⟩
              have hL5 := HL.out.fr hF5 HC.out.2.2.2
              have hB5 := HB.out.trans (hF5.below HC.out.1 HC.out.2.1 HB.out.size)
              clear hc hF5
              go_wp2
              go_meet
              case rel => exact ⟨o, false, d, xs, rfl, rfl, rfl, hJ5, hL5, hB5⟩
          · as_aux_lemma =>
              have hc := answer_ja b c _ W HJ.out
              rw [jp_answer_t, show (JP o true d xs).their = true from rfl] at hc
              go_wp2_with fail
              refine hc.mono ?_
              rintro e w5 ⟨rfl, hJ5, hF5⟩
              have hL5 := HL.out.fr hF5 HC.out.2.2.2
              have hB5 := HB.out.trans (hF5.below HC.out.1 HC.out.2.1 HB.out.size)
              clear hc hF5
              obtain ⟨l6, z6⟩ := hL5.cell 6 (by omega)
              go_wp2
              go_meet
              case rel => exact ⟨o, false, d, xs.set 6 0, rfl, rfl, rfl, (hJ5.left HC.out.2.2.2 6 _), (hL5.put 6 0), (hB5.setCell HC.out.2.2.1 _)⟩
        · subst h
          clear hq hq0
          by_cases hX : X % 4 = 0
          · as_aux_lemma =>
              have hx : X % 4 = 0 := hX
              clear hX
              have hc := clear_ja b c _ W HJ.out
              rw [jp_clear] at hc
              go_wp2_with fail
              refine hc.mono ?_
              rintro e w5 ⟨rfl, hJ5, hF5⟩
              have hL5 := HL.out.fr hF5 HC.out.2.2.2
              have hB5 := HB.out.trans (hF5.below HC.out.1 HC.out.2.1 HB.out.size)
              clear hc hF5
              obtain ⟨l5, z5⟩ := hL5.cell 5 (by omega)
              obtain ⟨l6', z6'⟩ := (hL5.put 5 0).cell 6 (by omega)
              go_wp2
              go_meet
              case rel => exact ⟨false, false, false, (xs.set 5 0).set 6 0, rfl, rfl, rfl, ((hJ5.left HC.out.2.2.2 5 _).left HC.out.2.2.2 6 _), ((hL5.put 5 0).put 6 0), ((hB5.setCell HC.out.2.2.1 _).setCell HC.out.2.2.1 _)⟩
          · as_aux_lemma =>
              have hx : ¬ X % 4 = 0 := hX
              have hx2 : (X % 4 == 0) = false := by rw [beq_eq_false_iff_ne]; exact hx
              clear hX hx
              go_wp2
              go_meet
              case rel => exact ⟨o, t, d, xs, rfl, rfl, rfl, HJ.out, HL.out, HB.out⟩
        · as_aux_lemma =>
            have e0 : (q == 0) = false := by rw [beq_eq_false_iff_ne]; omega
            have e1 : (q == 1) = false := by rw [beq_eq_false_iff_ne]; omega
            have e4 : decide (q < 4) = false := decide_eq_false (by omega)
            have e5 : decide (q < 6) = false := decide_eq_false (by omega)
            have e6 : (q == 6) = false := by rw [beq_eq_false_iff_ne]; omega
            have e7 : (q == 7) = false := by rw [beq_eq_false_iff_ne]; omega
            clear h hq hq0 hX2 hX4
            have HX : Hid (xs.length = 8) := HJ.out.clock.len
            have HO : Hid (∀ x ∈ xs, 0 ≤ x ∧ x ≤ 4294967296) := HJ.out.clock.ok
            have hc := tick_ja b c _ W HJ.out
            rw [jp_tick, show (JP o t d xs).xs = xs from rfl] at hc
            have hbc := HJ.out.lt
            have hgl := HL.out.lt
            go_wp2_with fail
            refine hc.mono ?_
            rintro e w5 ⟨vo, cv, rfl, hrv, hli, hJ5, hF5⟩
            have hL5 := HL.out.fr hF5 HC.out.2.2.2
            have hB5 := HB.out.trans (hF5.below HC.out.1 HC.out.2.1 HB.out.size)
            have hvo : ∀ x, vo = some x → x.block < w5.heap.size ∧ x.block ≠ b ∧ x.block ≠ c ∧ x.block ≠ g := fun x hx => by
              have h1 := hli x hx
              exact ⟨h1.2, by omega, by omega, by omega⟩
            obtain ⟨L, hL⟩ : ∃ L, (outs 0 xs).length = L := ⟨_, rfl⟩
            have hL8 := outs_len 0 xs
            rw [hL] at hL8
            rw [hL]
            have HLL : Hid ((outs 0 xs).length = L) := hL
            have hL9 : L ≤ 8 := by have := HX.out; omega
            obtain ⟨ee, hee⟩ : ∃ ee : Bool, (ee = true ↔ xs.getD 5 0 = 1 ∧ o = true) := ⟨decide (xs.getD 5 0 = 1 ∧ o = true), by simp⟩
            have HE : Hid (ee = true ↔ xs.getD 5 0 = 1 ∧ o = true) := hee
            have HS0 : Hid (SeenK ee xs xs 0) := SeenK.zero ee xs HX.out
            rw [← fin_zero ee xs, ← duk_zero ee d] at hJ5
            have HD0 : Hid (d = duk ee d 0) := (duk_zero ee d).symm
            clear hc hF5 hli hL hL8 hee hbc hgl HJ HL HB e0 e1 e4 e5 e6 e7 x1
            go_wp2_with fail
            go_loopw [8, 15, 16] (fun dd m i wx => ∃ (j cc : Nat) (D : Bool) (F ys : List Int), j ≤ 8 ∧ i = .int .i64 j ∧ m = .int .i64 cc ∧ cc ≤ L ∧ dd = .bool D ∧ Hid (D = duk ee d j ∧ F = fin ee xs j) ∧ Hid ((outs 0 xs).drop cc = outs j (xs.drop j)) ∧ Hid (SeenK ee xs ys j) ∧ JamAt wx b c (JP o t D F) ∧ LeftAt wx g ys ∧ Reads wx vo (nums (outs 0 xs)) ∧ Hid (∀ x, vo = some x → x.block < wx.heap.size ∧ x.block ≠ b ∧ x.block ≠ c ∧ x.block ≠ g) ∧ Below w.heap.size w wx) (fun _ _ i _ => 8 - (intOf i).toNat)
            case atStart => exact ⟨0, 0, d, fin ee xs 0, xs, by omega, rfl, rfl, by omega, rfl, ⟨HD0.out, rfl⟩, rfl, HS0, by rw [show JP o t d (fin ee xs 0) = JP o t (duk ee d 0) (fin ee xs 0) by rw [duk_zero]]; exact hJ5, hL5, hrv, hvo, hB5⟩
            case round =>
              clear hJ5 hL5 hrv hvo hB5 HS0 HD0
              obtain ⟨j, cc, D, F, ys, hj, rfl, rfl, hcL, rfl, HDF, HU, HS, hJ, hL, hrv, HV, hB⟩ := hrel
              by_cases hj8 : j < 8
              · obtain ⟨c0, z0⟩ := hL.cell j hj8
                have hyj : ys.getD j 0 = xs.getD j 0 := HS.out.2.2 j (Nat.le_refl _)
                have hjl : j < xs.length := by have := HX.out; omega
                have hxb := HO.out _ (List.getElem_mem hjl)
                rw [show xs[j] = xs.getD j 0 by simp [List.getD, hjl]] at hxb
                have hok := out_stepK hjl HU.out
                rw [hyj] at c0
                have HY : Hid (ys.getD j 0 = xs.getD j 0) := hyj
                obtain ⟨x, hx⟩ : ∃ x, xs.getD j 0 = x := ⟨_, rfl⟩
                rw [hx] at c0 hxb hok
                have HXJ : Hid (xs.getD j 0 = x) := hx
                have H1 : Hid (x = 1 → (outs 0 xs)[cc]? = some j ∧ (outs 0 xs).drop (cc + 1) = outs (j + 1) (xs.drop (j + 1))) := hok.1
                have H2 : Hid (x ≠ 1 → (outs 0 xs).drop cc = outs (j + 1) (xs.drop (j + 1))) := hok.2
                obtain ⟨x0, x1⟩ := hxb
                have HJ : Hid (JamAt wr b c (JP o t D F)) := hJ
                have HL : Hid (LeftAt wr g ys) := hL
                have HR : Hid (Reads wr vo (nums (outs 0 xs))) := hrv
                have HB : Hid (Below w.heap.size w wr) := hB
                clear hyj hjl hok hx hJ hL hrv hB
                by_cases hx0 : x = 0
                · as_aux_lemma =>
                    subst hx0
                    have h5 : j ≠ 5 ∨ ee = false := by
                      by_cases h : j = 5
                      · subst h
                        right
                        cases hb : ee
                        · rfl
                        · have := (HE.out.1 hb).1; rw [HXJ.out] at this; cases this
                      · exact .inl h
                    have HS2 : Hid (SeenK ee xs ys (j + 1)) := by
                      have h := HS.out.up hj8 h5
                      rw [HXJ.out, show tk 0 = 0 from rfl] at h
                      have e : ys.set j 0 = ys := by
                        have := set_getD ys j (by have := HS.out.1; omega)
                        rwa [HY.out, HXJ.out] at this
                      rwa [e] at h
                    have HDF2 : Hid (D = duk ee d (j + 1) ∧ F = fin ee xs (j + 1)) := by
                      rw [show Hid (D = duk ee d (j + 1) ∧ F = fin ee xs (j + 1)) = (D = duk ee d (j + 1) ∧ F = fin ee xs (j + 1)) from rfl, duk_same ee d j h5, fin_same ee xs j h5]
                      exact HDF.out
                    clear h5
                    go_wp2
                    go_roundw
                    case rel => exact ⟨j + 1, cc, D, F, ys, by omega, by go_num, rfl, hcL, rfl, HDF2, H2.out (by decide), HS2, HJ.out, HL.out, HR.out, HV, HB.out⟩
                    case measure => simp [intOf]; omega
                · by_cases hx1 : x = 1
                  · subst hx1
                    obtain ⟨hu, hd⟩ := H1.out rfl
                    have hcl : cc < L := by have := (List.getElem?_eq_some_iff.1 hu).1; have := HLL.out; omega
                    obtain ⟨gv, ov, rfl, hcc⟩ := HR.out cc (.int .i64 j) (by unfold nums; rw [List.getElem?_map, hu]; rfl)
                    have hv := HV.out _ rfl
                    simp only at hv
                    obtain ⟨v0, v1, v2, v3⟩ := hv
                    have HD : Hid ((outs 0 xs).drop (cc + 1) = outs (j + 1) (xs.drop (j + 1))) := hd
                    have hcc2 : (wr.setCell ⟨g, j, none⟩ (.int .i64 0)).cell? ⟨gv, ov + cc, none⟩ = some (.int .i64 j) := (World.cell?_of_block (a := ⟨gv, ov + cc, none⟩) (Below.heap_setCell _ _ _ _ v3)).trans hcc
                    have HR2 : Hid (Reads (wr.setCell ⟨g, j, none⟩ (.int .i64 0)) (some ⟨gv, ov, none⟩) (nums (outs 0 xs))) := gb_reads (b := g) (fun x hx => by cases hx; exact ⟨v0, v3⟩) (kgb_set _) HR.out
                    have hJ2 := HJ.out.left HC.out.2.2.2 j (.int .i64 0)
                    have hL2 := HL.out.put j 0
                    have hB2 := HB.out.setCell (p := ⟨g, j, none⟩) HC.out.2.2.1 (.int .i64 0)
                    have hsz : wr.heap.size ≤ (wr.setCell ⟨g, j, none⟩ (.int .i64 0)).heap.size := by simp [World.setCell]
                    have hou := out_ja b c (JP o t D F) j _ hJ2
                    have HHL2 : Hid (LeftAt (wr.setCell ⟨g, j, none⟩ (.int .i64 0)) g (ys.set j 0)) := hL2
                    have HHB2 : Hid (Below w.heap.size w (wr.setCell ⟨g, j, none⟩ (.int .i64 0))) := hB2
                    have HVV : Hid (∀ w', Fr b c (wr.setCell ⟨g, j, none⟩ (.int .i64 0)) w' → LeftAt w' g (ys.set j 0) ∧ Below w.heap.size w w' ∧ Reads w' (some ⟨gv, ov, none⟩) (nums (outs 0 xs)) ∧ ∀ x : Addr, some (⟨gv, ov, none⟩ : Addr) = some x → x.block < w'.heap.size ∧ x.block ≠ b ∧ x.block ≠ c ∧ x.block ≠ g) := fun w' hf =>
                      ⟨hL2.fr hf HC.out.2.2.2, hB2.trans (hf.below HC.out.1 HC.out.2.1 hB2.size), HR2.out.fr hf (fun x hx => by cases hx; exact ⟨Nat.lt_of_lt_of_le v0 hsz, v1, v2⟩), fun x hx => by cases hx; exact ⟨Nat.lt_of_lt_of_le v0 (Nat.le_trans hsz hf.size), v1, v2, v3⟩⟩
                    have hgsz : ¬ (cc : Int) ≥ (L : Int) := by omega
                    clear hu hd hcc HR HV HJ HL HB hJ2 hL2 hB2 HR2 HHL2 HHB2 hsz v0 v1 v2 v3 H1 H2
                    by_cases hj5 : j = 5
                    · subst hj5
                      rcases o with _ | _
                      · as_aux_lemma =>
                          have hef : ee = false := by
                            cases hb : ee
                            · rfl
                            · have := (HE.out.1 hb).2; cases this
                          have HS2 : Hid (SeenK ee xs (ys.set 5 0) 6) := by
                            have h := HS.out.up hj8 (.inr hef)
                            rwa [HXJ.out, show tk 1 = 0 from rfl] at h
                          have HDF2 : Hid (D = duk ee d 6 ∧ F = fin ee xs 6) := by
                            rw [show Hid (D = duk ee d 6 ∧ F = fin ee xs 6) = (D = duk ee d 6 ∧ F = fin ee xs 6) from rfl, duk_same ee d 5 (.inr hef), fin_same ee xs 5 (.inr hef)]
                            exact HDF.out
                          clear hef
                          rw [show (JP false t D F).out ((5 : Nat) : Int) = JP false t D F from rfl, show (JP false t D F).why ((5 : Nat) : Int) = 0 from rfl] at hou
                          go_wp2_with (go_at_call 25; refine hou.mono ?_; rintro e w6 ⟨rfl, hJ6, hF6⟩; obtain ⟨hL6, hB6, hR6, hV6⟩ := HVV.out _ hF6; have HV6 : Hid (∀ x : Addr, some (⟨gv, ov, none⟩ : Addr) = some x → x.block < w6.heap.size ∧ x.block ≠ b ∧ x.block ≠ c ∧ x.block ≠ g) := hV6; clear hou hF6 hV6)
                          go_roundw
                          case rel => exact ⟨6, cc + 1, D, F, ys.set 5 0, by omega, by go_num, by go_num, by omega, rfl, HDF2, HD, HS2, hJ6, hL6, hR6, HV6, hB6⟩
                          case measure => simp [intOf]
                      · as_aux_lemma =>
                          have het : ee = true := HE.out.2 ⟨HXJ.out, rfl⟩
                          subst het
                          have HS2 : Hid (SeenK true xs (ys.set 5 7) 6) := HS.out.five HX.out
                          have HDF2 : Hid (true = duk true d 6 ∧ F.set 5 7 = fin true xs 6) := ⟨(duk_five d).symm, by rw [fin_five, HDF.out.2]⟩
                          rw [show (JP true t D F).out ((5 : Nat) : Int) = JP true t true (F.set 5 7) from rfl, show (JP true t D F).why ((5 : Nat) : Int) = 0 from rfl] at hou
                          go_wp2_with (go_at_call 25; refine hou.mono ?_; rintro e w6 ⟨rfl, hJ6, hF6⟩; obtain ⟨hL6, hB6, hR6, hV6⟩ := HVV.out _ hF6; have HV6 : Hid (∀ x : Addr, some (⟨gv, ov, none⟩ : Addr) = some x → x.block < w6.heap.size ∧ x.block ≠ b ∧ x.block ≠ c ∧ x.block ≠ g) := hV6; obtain ⟨l5, z5⟩ := hL6.cell 5 (by omega); clear hou hF6 hV6)
                          have hR7 : Reads (w6.setCell ⟨g, 5, none⟩ (.int .i64 7)) (some ⟨gv, ov, none⟩) (nums (outs 0 xs)) := gb_reads (b := g) (fun x hx => ⟨(HV6.out x hx).1, (HV6.out x hx).2.2.2⟩) (kgb_set _) hR6
                          have hL7 := hL6.put 5 7
                          rw [List.set_set] at hL7
                          have HV7 : Hid (∀ x : Addr, some (⟨gv, ov, none⟩ : Addr) = some x → x.block < (w6.setCell ⟨g, 5, none⟩ (.int .i64 7)).heap.size ∧ x.block ≠ b ∧ x.block ≠ c ∧ x.block ≠ g) := fun x hx => by
                            have h := HV6.out x hx
                            exact ⟨by simpa [World.setCell] using h.1, h.2⟩
                          go_roundw
                          case rel => exact ⟨6, cc + 1, true, F.set 5 7, ys.set 5 7, by omega, by go_num, by go_num, by omega, rfl, HDF2, HD, HS2, hJ6.left HC.out.2.2.2 5 _, hL7, hR7, HV7, hB6.setCell HC.out.2.2.1 _⟩
                          case measure => simp [intOf]
                    · have HS2 : Hid (SeenK ee xs (ys.set j 0) (j + 1)) := by
                        have h := HS.out.up hj8 (.inl hj5)
                        rwa [HXJ.out, show tk 1 = 0 from rfl] at h
                      have HDF2 : Hid (D = duk ee d (j + 1) ∧ F = fin ee xs (j + 1)) := by
                        rw [show Hid (D = duk ee d (j + 1) ∧ F = fin ee xs (j + 1)) = (D = duk ee d (j + 1) ∧ F = fin ee xs (j + 1)) from rfl, duk_same ee d j (.inl hj5), fin_same ee xs j (.inl hj5)]
                        exact HDF.out
                      have hou2 : (JP o t D F).out (j : Int) = JP o t D F := by
                        unfold Ja.out
                        rw [if_neg (fun h => hj5 (by omega))]
                      rw [hou2] at hou
                      have q5 : ((j : Int) == 5) = false := by rw [beq_eq_false_iff_ne]; omega
                      clear hou2
                      by_cases hj6 : j = 6
                      · subst hj6
                        rcases t with _ | _
                        · as_aux_lemma =>
                            rw [show (JP o false D F).why ((6 : Nat) : Int) = 0 from rfl] at hou
                            go_wp2_with (go_at_call 25; refine hou.mono ?_; rintro e w6 ⟨rfl, hJ6, hF6⟩; obtain ⟨hL6, hB6, hR6, hV6⟩ := HVV.out _ hF6; have HV6 : Hid (∀ x : Addr, some (⟨gv, ov, none⟩ : Addr) = some x → x.block < w6.heap.size ∧ x.block ≠ b ∧ x.block ≠ c ∧ x.block ≠ g) := hV6; clear hou hF6 hV6)
                            go_roundw
                            case rel => exact ⟨7, cc + 1, D, F, ys.set 6 0, by omega, by go_num, by go_num, by omega, rfl, HDF2, HD, HS2, hJ6, hL6, hR6, HV6, hB6⟩
                            case measure => simp [intOf]
                        · as_aux_lemma =>
                            rw [show (JP o true D F).why ((6 : Nat) : Int) = 3 from rfl] at hou
                            go_wp2_with (go_at_call 25; refine hou.mono ?_; rintro e w6 ⟨rfl, hJ6, hF6⟩; obtain ⟨hL6, hB6, hR6, hV6⟩ := HVV.out _ hF6; have HV6 : Hid (∀ x : Addr, some (⟨gv, ov, none⟩ : Addr) = some x → x.block < w6.heap.size ∧ x.block ≠ b ∧ x.block ≠ c ∧ x.block ≠ g) := hV6; clear hou hF6 hV6)
                            go_roundw
                            case rel => exact ⟨7, cc + 1, D, F, ys.set 6 0, by omega, by go_num, by go_num, by omega, rfl, HDF2, HD, HS2, hJ6, hL6, hR6, HV6, hB6⟩
                            case measure => simp [intOf]
                      · as_aux_lemma =>
                          have hwy : (JP o t D F).why (j : Int) = 0 := by
                            unfold Ja.why
                            rw [if_neg (fun h => hj6 (by omega))]
                          rw [hwy] at hou
                          have q6 : ((j : Int) == 6) = false := by rw [beq_eq_false_iff_ne]; omega
                          clear hwy
                          go_wp2_with (go_at_call 25; refine hou.mono ?_; rintro e w6 ⟨rfl, hJ6, hF6⟩; obtain ⟨hL6, hB6, hR6, hV6⟩ := HVV.out _ hF6; have HV6 : Hid (∀ x : Addr, some (⟨gv, ov, none⟩ : Addr) = some x → x.block < w6.heap.size ∧ x.block ≠ b ∧ x.block ≠ c ∧ x.block ≠ g) := hV6; clear hou hF6 hV6)
                          go_roundw
                          case rel => exact ⟨j + 1, cc + 1, D, F, ys.set j 0, by omega, by go_num, by go_num, by omega, rfl, HDF2, HD, HS2, hJ6, hL6, hR6, HV6, hB6⟩
                          case measure => simp [intOf]; omega
                  · as_aux_lemma =>
                      have h5 : j ≠ 5 ∨ ee = false := by
                        by_cases h : j = 5
                        · subst h
                          right
                          cases hb : ee
                          · rfl
                          · exact absurd (HXJ.out.symm.trans (HE.out.1 hb).1) hx1
                        · exact .inl h
                      have HS2 : Hid (SeenK ee xs (ys.set j (x - 1)) (j + 1)) := by
                        have h := HS.out.up hj8 h5
                        rwa [HXJ.out, show tk x = x - 1 by unfold tk; rw [if_neg hx0]] at h
                      have HDF2 : Hid (D = duk ee d (j + 1) ∧ F = fin ee xs (j + 1)) := by
                        rw [show Hid (D = duk ee d (j + 1) ∧ F = fin ee xs (j + 1)) = (D = duk ee d (j + 1) ∧ F = fin ee xs (j + 1)) from rfl, duk_same ee d j h5, fin_same ee xs j h5]
                        exact HDF.out
                      have hxp : 0 < x - 1 := by omega
                      have HR2 : Hid (Reads (wr.setCell ⟨g, j, none⟩ (.int .i64 (x - 1))) vo (nums (outs 0 xs))) := gb_reads (b := g) (fun x hx => ⟨(HV.out x hx).1, (HV.out x hx).2.2.2⟩) (kgb_set _) HR.out
                      have HV2 : Hid (∀ y, vo = some y → y.block < (wr.setCell ⟨g, j, none⟩ (.int .i64 (x - 1))).heap.size ∧ y.block ≠ b ∧ y.block ≠ c ∧ y.block ≠ g) := fun y hy => by
                        have h := HV.out y hy
                        exact ⟨by simpa [World.setCell] using h.1, h.2⟩
                      have HN : Hid ((outs 0 xs).drop cc = outs (j + 1) (xs.drop (j + 1))) := H2.out hx1
                      clear h5 hx1
                      go_wp2
                      go_roundw
                      case rel => exact ⟨j + 1, cc, D, F, ys.set j (x - 1), by omega, by go_num, rfl, hcL, rfl, HDF2, HN, HS2, HJ.out.left HC.out.2.2.2 j _, HL.out.put j _, HR2.out, HV2, HB.out.setCell HC.out.2.2.1 _⟩
                      case measure => simp [intOf]; omega
              · obtain rfl : j = 8 := by omega
                have hcl : cc = L := by
                  have h := HU.out
                  rw [show xs.drop 8 = [] from List.drop_eq_nil_of_le (by have := HX.out; omega), outs] at h
                  have := congrArg List.length h
                  simp at this
                  have := HLL.out
                  omega
                subst hcl
                have HYF : Hid (ys = F) := by
                  show _ = _
                  rw [HDF.out.2]
                  exact HS.out.all HX.out
                clear HU HS HDF hrv HV
                go_wp2
                go_meet
                case rel => exact ⟨o, t, D, F, rfl, rfl, rfl, hJ, by rw [← HYF.out]; exact hL, hB⟩
      case rest =>
        as_aux_lemma =>
          clear HJ HL HB hX2 hX4 x1 hq0 hq hKm
          obtain ⟨o', t', d', ys, rfl, rfl, rfl, hJ, hL, hB⟩ := hcut
          obtain ⟨⟨c0, c1, -⟩, -⟩ := hJ.all
          rw [show (JP o' t' d' ys).own = o' from rfl] at c0
          rw [show (JP o' t' d' ys).their = t' from rfl] at c1
          go_wp2_with fail
          go_loopw [18] (fun i wx => ∃ (j : Nat), j ≤ 8 ∧ i = .int .i64 j ∧ JamAt wx b c (JP o' t' d' ys) ∧ LeftAt wx g ys ∧ Below w.heap.size w wx) (fun i _ => 8 - (intOf i).toNat)
          case atStart => exact ⟨0, by omega, rfl, hJ, hL, hB⟩
          case round =>
            clear hJ hL hB c0 c1
            obtain ⟨j, hj, rfl, hJ, hL, hB⟩ := hrel
            by_cases hj8 : j < 8
            · obtain ⟨l0, -⟩ := hL.cell j hj8
              have hle : ∀ q, Calls Try.prog 26 #[.pointer (some ⟨c, 0, none⟩), .int .i64 j] (wr.drewN q) fun e w' => e = .returned (.int .i64 (ys.getD j 0)) ∧ w' = wr.drewN q := fun q => by
                have := left_any c ys j (wr.drewN q) (hJ.clock.at_ rfl)
                rwa [lft, if_pos (by omega), Int.toNat_natCast] at this
              have HJ : Hid (JamAt wr b c (JP o' t' d' ys)) := hJ
              have HL : Hid (LeftAt wr g ys) := hL
              have HB : Hid (Below w.heap.size w wr) := hB
              generalize ys.getD j 0 = x at *
              have hb1 : (x != x) = false := by simp
              clear hJ hL hB
              go_wp2_with fail
              go_quiet ((go_at_call 26; exact Calls.quiet_of_same (hle _)))
              go_wp2
              go_roundw
              case rel => exact ⟨j + 1, by omega, by go_num, HJ.out.at_ rfl rfl, HL.out.at_ rfl, below_drewN HB.out _⟩
              case measure => simp [intOf]; omega
            · go_wp2
              go_roundw
              case rel => exact ⟨k + 1, o', t', d', ys, by omega, by go_num, rfl, rfl, rfl, hJ, hL, hB⟩
              case measure => simp [intOf]; omega
    · go_wp2
      go_ret
      exact ⟨rfl, hB⟩

theorem plays16_walk (ao : Option Addr) (n cap : Nat) (w : World) (h : n ≤ maxLen ∧ Acts w ao n) :
    Calls Try.prog 6 #[.slice ao n cap] w fun e w' => e = .returned (.bool true) ∧ Below w.heap.size w w' := by
  by_cases hl : 100 < n
  · exact plays16_long ao n cap w h.1 hl
  · exact plays16_short ao n cap w (by omega) h.2
end Go.Proofs.Yteemfdbhcehfgaa.Tape
