/- The walk of the law AlignTries. -/
import Derived.Test.YtmcjjminlbempaaAlign6
namespace Go.Proofs.Ytmcjjminlbempaa.Tape
open Go.ChangeShapes Go.WideShapes Go.ChangeAt Go.RowKit
set_option linter.unusedVariables false

theorem unit_right (A : Al) (hm : A.n ≠ A.most) : A.unit false = A ∧ A.unitWhy false = 0 := by
  constructor
  · unfold Al.unit
    split
    · rfl
    · rw [if_pos (by simpa using hm)]
      simp
  · unfold Al.unitWhy
    rw [if_neg (fun e => hm (by simpa using e.2.1))]

/-- It is proved, as this side's hurry says; so many provings were given up, so many units weren't right since. -/
def Trying (A : Al) (h : Bool) (most k : Nat) : Prop := A.st = 3 ∧ A.hur = h ∧ A.hurries = h ∧ A.n = ((k % most : Nat) : Int) ∧ A.tries = ((k / most : Nat) : Int) ∧ A.most = most

theorem unit_t (A : Al) (h1 : A.st = 3) : A.unit true = if A.n + 1 ≠ A.most then { A with n := A.n + 1 } else if A.tries + 1 ≥ 5 then { A with n := 0, tries := A.tries + 1 } else Al.prove { A with n := 0, tries := A.tries + 1 } := by
  show (if A.st ≠ 3 then A else if A.n + 1 ≠ A.most then { A with n := A.n + 1 } else if A.tries + 1 ≥ 5 then { A with n := 0, tries := A.tries + 1 } else Al.prove { A with n := 0, tries := A.tries + 1 }) = _
  rw [if_neg (by simp [h1])]
theorem unit_w (A : Al) (h1 : A.st = 3) : A.unitWhy true = if A.n + 1 = A.most ∧ A.tries + 1 ≥ 5 then 5 else 0 := by
  show (if A.st = 3 ∧ A.n + 1 = A.most ∧ A.tries + 1 ≥ 5 then (5 : Int) else 0) = _
  simp [h1]

theorem trying_end {A : Al} {h : Bool} {most k : Nat} (t : Trying A h most k) (hm : most = 1 ∨ most = 4) (hk : k + 1 = 5 * most) : A.unitWhy true = 5 := by
  obtain ⟨h1, h2, h3, h4, h5, h6⟩ := t
  rw [unit_w A h1, if_pos]
  constructor
  · rw [h4, h6]; rcases hm with rfl | rfl <;> omega
  · rw [h5]; rcases hm with rfl | rfl <;> omega

theorem trying_on {A : Al} {h : Bool} {most k : Nat} (t : Trying A h most k) (hm : most = 1 ∨ most = 4) (hb : h = true ↔ most = 1) (hk : k + 1 < 5 * most) : Trying (A.unit true) h most (k + 1) ∧ A.unitWhy true = 0 := by
  obtain ⟨h1, h2, h3, h4, h5, h6⟩ := t
  have hmb : ∀ B : Al, B.hur = h → B.most = most := fun B hB => by
    unfold Al.most
    rw [hB]
    rcases hm with rfl | rfl
    · rw [if_pos (hb.2 rfl)]; rfl
    · rw [if_neg (fun e => absurd (hb.1 e) (by decide))]; rfl
  rw [unit_t A h1, unit_w A h1]
  by_cases hN : (k + 1) % most = 0
  · have e1 : k % most + 1 = most := by rcases hm with rfl | rfl <;> omega
    have e2 : (k + 1) / most = k / most + 1 := by rcases hm with rfl | rfl <;> omega
    have e3 : k / most + 1 < 5 := by rcases hm with rfl | rfl <;> omega
    have n1 : ¬ A.n + 1 ≠ A.most := by rw [h4, h6]; omega
    have n2 : ¬ A.tries + 1 ≥ 5 := by rw [h5]; omega
    rw [if_neg n1, if_neg n2, if_neg (fun e => n2 e.2)]
    refine ⟨⟨rfl, h3, h3, ?_, ?_, hmb _ h3⟩, rfl⟩
    · rw [hN]; rfl
    · show A.tries + 1 = _
      rw [h5, e2]; rfl
  · have e1 : (k + 1) % most = k % most + 1 ∧ k % most + 1 ≠ most := by rcases hm with rfl | rfl <;> omega
    have e2 : (k + 1) / most = k / most := by rcases hm with rfl | rfl <;> omega
    have n1 : A.n + 1 ≠ A.most := by rw [h4, h6]; have := e1.2; omega
    rw [if_pos n1, if_neg (fun e => n1 e.1)]
    refine ⟨⟨h1, h2, h3, ?_, ?_, h6⟩, rfl⟩
    · show A.n + 1 = _
      rw [h4, e1.1]; rfl
    · rw [e2]; exact h5

theorem trying_new (h : Bool) : Trying ((((alU.hurry h).begin_).heard 0).heard 1) h (if h = true then 1 else 4) 0 := by
  cases h <;> exact ⟨by decide, by decide, by decide, by decide, by decide, by decide⟩

set_option maxRecDepth 100000 in
set_option maxHeartbeats 2000000 in
theorem altries_walk (h : Bool) (r : Int) (w : World) (hr : 0 ≤ r ∧ r ≤ 255) :
    Calls Try.prog 6 #[.bool h, .int .u8 r] w fun e w' => e = .returned (.bool true) ∧ Below w.heap.size w w' := by
  have haw := awake14_any w
  obtain ⟨r0, r1⟩ := hr
  have hrm : r.tmod 5 = r % 5 := Int.tmod_eq_emod_of_nonneg r0
  obtain ⟨q, hq⟩ : ∃ q : Nat, r % 5 = (q : Int) := ⟨(r % 5).toNat, by omega⟩
  have hq5 : q < 5 := by omega
  rw [hq] at hrm
  clear hq
  have hnew := trying_new h
  cases h
  · have HN : Hid (Trying ((((alU.hurry false).begin_).heard 0).heard 1) false 4 0) := hnew
    clear hnew
    go_enter Try.func6, Try.ntmps6
    go_wp2_with (go_at_call 8; refine haw.mono ?_; rintro e w1 ⟨rfl, hB1⟩)
    have hc1 : ClockAt (w1.alloc (.cells #[.int .i64 0, .int .i64 0, .int .i64 0, .int .i64 0, .int .i64 0, .int .i64 0, .int .i64 0, .int .i64 0] 30)) w1.heap.size (List.replicate 8 0) := clock_new w1
    have hB2 := hB1.alloc hB1.size (.cells #[.int .i64 0, .int .i64 0, .int .i64 0, .int .i64 0, .int .i64 0, .int .i64 0, .int .i64 0, .int .i64 0] 30)
    refine (usual_any false _).mono ?_
    rintro e w2 ⟨rfl, hU⟩
    have hc2 := hc1.keep hU
    have HB2 : Hid (Below w.heap.size w w2) := hB2.trans (hU.mono hB2.size)
    have HC : Hid (w.heap.size ≤ w1.heap.size) := hB1.size
    have hnw := alu_any _ _ hc2
    clear hc1 hB2 hU hc2 hB1 haw
    go_wp2_with (go_at_call 10; refine hnw.mono ?_; rintro e w3 ⟨b, rfl, hb, hA3, hB3⟩; have HB3 : Hid (Below w.heap.size w w3) := HB2.out.trans (hB3.mono HB2.out.size); have hhu := hurry_al b _ _ false w3 hA3)
    generalize w1.heap.size = c at *
    have HC2 : Hid (w.heap.size ≤ c ∧ w.heap.size ≤ b) := ⟨HC.out, Nat.le_trans HB2.out.size hb⟩
    clear hnw hA3 hB3 hb
    refine hhu.mono ?_
    rintro e w4 ⟨rfl, hA4, hF4⟩
    have HB4 : Hid (Below w.heap.size w w4) := HB3.out.trans (hF4.below HC2.out.2 HC2.out.1 HB3.out.size)
    have hbe := begin_al b _ _ w4 hA4
    clear hhu hF4 HB3 HB2 HC hA4
    go_wp2_with fail
    refine hbe.mono ?_
    rintro e w5 ⟨rfl, hA5, hF5⟩
    have HB5 : Hid (Below w.heap.size w w5) := HB4.out.trans (hF5.below HC2.out.2 HC2.out.1 HB4.out.size)
    have hh1 := heard_al b _ _ 0 (by decide) w5 hA5
    clear hbe hF5 HB4 hA5
    go_wp2_with fail
    refine hh1.mono ?_
    rintro e w6 ⟨rfl, hA6, hF6⟩
    have HB6 : Hid (Below w.heap.size w w6) := HB5.out.trans (hF6.below HC2.out.2 HC2.out.1 HB5.out.size)
    have hh2 := heard_al b _ _ 1 (by decide) w6 hA6
    clear hh1 hF6 HB5 hA6
    go_wp2_with fail
    refine hh2.mono ?_
    rintro e w7 ⟨rfl, hA7, hF7⟩
    have hB7 : Below w.heap.size w w7 := HB6.out.trans (hF7.below HC2.out.2 HC2.out.1 HB6.out.size)
    clear hh2 hF7 HB6
    generalize (((alU.hurry false).begin_).heard 0).heard 1 = A0 at *
    go_wp2_with fail
    go_loopw [8, 9] (fun n i wr => ∃ (k : Nat) (A : Al), k < 20 ∧ n = .int .i64 k ∧ i = .int .i64 k ∧ AlignAt wr b c A ∧ Below w.heap.size w wr ∧ Hid (Trying A false 4 k)) (fun _ i _ => 20 - (intOf i).toNat)
    case atStart => exact ⟨0, A0, by omega, rfl, rfl, hA7, hB7, HN⟩
    case round =>
      clear hA7 hB7 HN
      obtain ⟨k, A, hk, rfl, rfl, hA, hB, HT⟩ := hrel
      have h100 : decide ((k : Int) < 100) = true := by rw [decide_eq_true_iff]; omega
      go_wp2_with fail
      go_loopw [10] (fun j wr => ∃ (m : Nat), m ≤ q ∧ j = .int .i64 m ∧ AlignAt wr b c A ∧ Below w.heap.size w wr) (fun j _ => q - (intOf j).toNat)
      case atStart => exact ⟨0, by omega, rfl, hA, hB⟩
      case round =>
        clear hA hB
        obtain ⟨m, hm, rfl, hA, hB⟩ := hrel
        have HB : Hid (Below w.heap.size w wr) := hB
        clear hB
        by_cases hmq : m < q
        · have hT := HT.out
          have hun := unit_al b c A false wr hA (by have := hT.2.2.2.1; omega) (by have := hT.2.2.2.2.1; omega)
          have hur := unit_right A (by rw [hT.2.2.2.1, hT.2.2.2.2.2]; omega)
          rw [hur.1, hur.2] at hun
          clear hT hA hur
          go_wp2_with (go_at_call 15; refine hun.mono ?_; rintro e w5 ⟨rfl, hA5, hF5⟩; have hB5 := HB.out.trans (hF5.below HC2.out.2 HC2.out.1 HB.out.size); clear hun hF5)
          go_roundw
          case rel => exact ⟨m + 1, by omega, by go_num, hA5, hB5⟩
          case measure => simp [intOf]; omega
        · obtain rfl : m = q := by omega
          have hT := HT.out
          have hun := unit_al b c A true wr hA (by have := hT.2.2.2.1; omega) (by have := hT.2.2.2.2.1; omega)
          clear hA
          by_cases hlast : k + 1 = 20
          · rw [trying_end hT (by decide) hlast] at hun
            obtain rfl : k = 19 := by omega
            clear hT hk hlast
            go_wp2_with (go_at_call 15; refine hun.mono ?_; rintro e w5 ⟨rfl, hA5, hF5⟩; have HB5 : Hid (Below w.heap.size w w5) := HB.out.trans (hF5.below HC2.out.2 HC2.out.1 HB.out.size); clear hun hF5)
            go_ret
            exact ⟨rfl, HB5.out⟩
          · obtain ⟨hT2, hw0⟩ := trying_on hT (by decide) (by decide) (show k + 1 < 5 * 4 by omega)
            rw [hw0] at hun
            have HT2 : Hid (Trying (A.unit true) false 4 (k + 1)) := hT2
            clear hT hT2 hw0
            generalize A.unit true = A2 at *
            go_wp2_with (go_at_call 15; refine hun.mono ?_; rintro e w5 ⟨rfl, hA5, hF5⟩; have HB5 : Hid (Below w.heap.size w w5) := HB.out.trans (hF5.below HC2.out.2 HC2.out.1 HB.out.size); clear hun hF5)
            have htr := fun q => tries_al b c A2 (w5.drewN q) (hA5.at_ rfl rfl)
            have hT := HT2.out
            have c0 := hA5.all.1.1
            rw [hT.1] at c0
            have hquo : ((k : Int) + 1).tdiv 4 = A2.tries := by rw [hT.2.2.2.2.1, Int.tdiv_eq_ediv_of_nonneg (by omega)]; rfl
            have HA5 : Hid (AlignAt w5 b c A2) := hA5
            have hwT : IntKind.i64.wrap A2.tries = A2.tries := IntWalk.i64_in _ (by rw [hT.2.2.2.2.1]; omega)
            generalize A2.tries = T at *
            have hb1 : (T != T) = false := by simp
            clear hT hA5
            go_quiet ((go_at_call 14; exact Calls.quiet_of_same (htr _)))
            go_wp2
            go_roundw
            case rel => exact ⟨k + 1, A2, by omega, by go_num, by go_num, HA5.out.at_ rfl rfl, below_drewN HB5.out _, HT2⟩
            case measure => simp [intOf]; omega
  · have HN : Hid (Trying ((((alU.hurry true).begin_).heard 0).heard 1) true 1 0) := hnew
    clear hnew
    go_enter Try.func6, Try.ntmps6
    go_wp2_with (go_at_call 8; refine haw.mono ?_; rintro e w1 ⟨rfl, hB1⟩)
    have hc1 : ClockAt (w1.alloc (.cells #[.int .i64 0, .int .i64 0, .int .i64 0, .int .i64 0, .int .i64 0, .int .i64 0, .int .i64 0, .int .i64 0] 30)) w1.heap.size (List.replicate 8 0) := clock_new w1
    have hB2 := hB1.alloc hB1.size (.cells #[.int .i64 0, .int .i64 0, .int .i64 0, .int .i64 0, .int .i64 0, .int .i64 0, .int .i64 0, .int .i64 0] 30)
    refine (usual_any false _).mono ?_
    rintro e w2 ⟨rfl, hU⟩
    have hc2 := hc1.keep hU
    have HB2 : Hid (Below w.heap.size w w2) := hB2.trans (hU.mono hB2.size)
    have HC : Hid (w.heap.size ≤ w1.heap.size) := hB1.size
    have hnw := alu_any _ _ hc2
    clear hc1 hB2 hU hc2 hB1 haw
    go_wp2_with (go_at_call 10; refine hnw.mono ?_; rintro e w3 ⟨b, rfl, hb, hA3, hB3⟩; have HB3 : Hid (Below w.heap.size w w3) := HB2.out.trans (hB3.mono HB2.out.size); have hhu := hurry_al b _ _ true w3 hA3)
    generalize w1.heap.size = c at *
    have HC2 : Hid (w.heap.size ≤ c ∧ w.heap.size ≤ b) := ⟨HC.out, Nat.le_trans HB2.out.size hb⟩
    clear hnw hA3 hB3 hb
    refine hhu.mono ?_
    rintro e w4 ⟨rfl, hA4, hF4⟩
    have HB4 : Hid (Below w.heap.size w w4) := HB3.out.trans (hF4.below HC2.out.2 HC2.out.1 HB3.out.size)
    have hbe := begin_al b _ _ w4 hA4
    clear hhu hF4 HB3 HB2 HC hA4
    go_wp2_with fail
    refine hbe.mono ?_
    rintro e w5 ⟨rfl, hA5, hF5⟩
    have HB5 : Hid (Below w.heap.size w w5) := HB4.out.trans (hF5.below HC2.out.2 HC2.out.1 HB4.out.size)
    have hh1 := heard_al b _ _ 0 (by decide) w5 hA5
    clear hbe hF5 HB4 hA5
    go_wp2_with fail
    refine hh1.mono ?_
    rintro e w6 ⟨rfl, hA6, hF6⟩
    have HB6 : Hid (Below w.heap.size w w6) := HB5.out.trans (hF6.below HC2.out.2 HC2.out.1 HB5.out.size)
    have hh2 := heard_al b _ _ 1 (by decide) w6 hA6
    clear hh1 hF6 HB5 hA6
    go_wp2_with fail
    refine hh2.mono ?_
    rintro e w7 ⟨rfl, hA7, hF7⟩
    have hB7 : Below w.heap.size w w7 := HB6.out.trans (hF7.below HC2.out.2 HC2.out.1 HB6.out.size)
    clear hh2 hF7 HB6
    generalize (((alU.hurry true).begin_).heard 0).heard 1 = A0 at *
    go_wp2_with fail
    go_loopw [8, 9] (fun n i wr => ∃ (k : Nat) (A : Al), k < 5 ∧ n = .int .i64 k ∧ i = .int .i64 k ∧ AlignAt wr b c A ∧ Below w.heap.size w wr ∧ Hid (Trying A true 1 k)) (fun _ i _ => 5 - (intOf i).toNat)
    case atStart => exact ⟨0, A0, by omega, rfl, rfl, hA7, hB7, HN⟩
    case round =>
      clear hA7 hB7 HN
      obtain ⟨k, A, hk, rfl, rfl, hA, hB, HT⟩ := hrel
      have h100 : decide ((k : Int) < 100) = true := by rw [decide_eq_true_iff]; omega
      go_wp2_with fail
      go_loopw [10] (fun j wr => ∃ (m : Nat), m ≤ q ∧ j = .int .i64 m ∧ AlignAt wr b c A ∧ Below w.heap.size w wr) (fun j _ => q - (intOf j).toNat)
      case atStart => exact ⟨0, by omega, rfl, hA, hB⟩
      case round =>
        clear hA hB
        obtain ⟨m, hm, rfl, hA, hB⟩ := hrel
        have HB : Hid (Below w.heap.size w wr) := hB
        clear hB
        by_cases hmq : m < q
        · have hT := HT.out
          have hun := unit_al b c A false wr hA (by have := hT.2.2.2.1; omega) (by have := hT.2.2.2.2.1; omega)
          have hur := unit_right A (by rw [hT.2.2.2.1, hT.2.2.2.2.2]; omega)
          rw [hur.1, hur.2] at hun
          clear hT hA hur
          go_wp2_with (go_at_call 15; refine hun.mono ?_; rintro e w5 ⟨rfl, hA5, hF5⟩; have hB5 := HB.out.trans (hF5.below HC2.out.2 HC2.out.1 HB.out.size); clear hun hF5)
          go_roundw
          case rel => exact ⟨m + 1, by omega, by go_num, hA5, hB5⟩
          case measure => simp [intOf]; omega
        · obtain rfl : m = q := by omega
          have hT := HT.out
          have hun := unit_al b c A true wr hA (by have := hT.2.2.2.1; omega) (by have := hT.2.2.2.2.1; omega)
          clear hA
          by_cases hlast : k + 1 = 5
          · rw [trying_end hT (by decide) hlast] at hun
            obtain rfl : k = 4 := by omega
            clear hT hk hlast
            go_wp2_with (go_at_call 15; refine hun.mono ?_; rintro e w5 ⟨rfl, hA5, hF5⟩; have HB5 : Hid (Below w.heap.size w w5) := HB.out.trans (hF5.below HC2.out.2 HC2.out.1 HB.out.size); clear hun hF5)
            go_ret
            exact ⟨rfl, HB5.out⟩
          · obtain ⟨hT2, hw0⟩ := trying_on hT (by decide) (by decide) (show k + 1 < 5 * 1 by omega)
            rw [hw0] at hun
            have HT2 : Hid (Trying (A.unit true) true 1 (k + 1)) := hT2
            clear hT hT2 hw0
            generalize A.unit true = A2 at *
            go_wp2_with (go_at_call 15; refine hun.mono ?_; rintro e w5 ⟨rfl, hA5, hF5⟩; have HB5 : Hid (Below w.heap.size w w5) := HB.out.trans (hF5.below HC2.out.2 HC2.out.1 HB.out.size); clear hun hF5)
            have htr := fun q => tries_al b c A2 (w5.drewN q) (hA5.at_ rfl rfl)
            have hT := HT2.out
            have c0 := hA5.all.1.1
            rw [hT.1] at c0
            have hquo : ((k : Int) + 1).tdiv 1 = A2.tries := by rw [hT.2.2.2.2.1, Int.tdiv_eq_ediv_of_nonneg (by omega)]; rfl
            have HA5 : Hid (AlignAt w5 b c A2) := hA5
            have hwT : IntKind.i64.wrap A2.tries = A2.tries := IntWalk.i64_in _ (by rw [hT.2.2.2.2.1]; omega)
            generalize A2.tries = T at *
            have hb1 : (T != T) = false := by simp
            clear hT hA5
            go_quiet ((go_at_call 14; exact Calls.quiet_of_same (htr _)))
            go_wp2
            go_roundw
            case rel => exact ⟨k + 1, A2, by omega, by go_num, by go_num, HA5.out.at_ rfl rfl, below_drewN HB5.out _, HT2⟩
            case measure => simp [intOf]; omega
end Go.Proofs.Ytmcjjminlbempaa.Tape
