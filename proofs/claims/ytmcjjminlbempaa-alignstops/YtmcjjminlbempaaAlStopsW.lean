/- The walk of the law AlignStops. -/
import Derived.Test.YtmcjjminlbempaaAlign6
namespace Go.Proofs.Ytmcjjminlbempaa.Tape
open Go.ChangeShapes Go.WideShapes Go.ChangeAt Go.RowKit
set_option linter.unusedVariables false

theorem quicken_st (A : Al) (was : Bool) (h : A.st = 3) : (A.quicken was).st = 3 := by
  unfold Al.quicken
  split
  · rfl
  · exact h

theorem heard_st (A : Al) (s : Int) (hs : s = 0 ∨ s = 1 ∨ s = 2) (h : A.st = 1 ∨ A.st = 2 ∨ A.st = 3) : (A.heard s).st = 2 ∨ (A.heard s).st = 3 := by
  have h0 : ¬ (A.st = 0 ∨ s = 3) := by omega
  unfold Al.heard
  rw [if_neg h0]
  rcases h with h | h | h
  · rw [if_pos h, if_pos hs]; exact .inl rfl
  · rw [if_neg (by omega), if_pos h]
    split
    · exact .inr rfl
    · exact .inl h
  · rw [if_neg (by omega), if_neg (by omega)]
    split
    · exact .inl rfl
    · exact .inr (quicken_st _ _ h)

set_option maxRecDepth 100000 in
set_option maxHeartbeats 1000000 in
theorem alstops_walk (ao : Option Addr) (n cap : Nat) (xs : List Int) (w : World) (hn : xs.length = n) (hr : Reads w ao (xs.map (.int .u8))) (hx : ∀ x ∈ xs, 0 ≤ x ∧ x ≤ 255) :
    Calls Try.prog 7 #[.slice ao n cap] w fun e w' => e = .returned (.bool true) ∧ Below w.heap.size w w' := by
  have haw := awake14_any w
  by_cases hlen : 40 < n
  · have hg : decide ((n : Int) > 40) = true := by simp; omega
    go_enter Try.func7, Try.ntmps7
    go_wp2_with (go_at_call 8; refine haw.mono ?_; rintro e w1 ⟨rfl, hB1⟩)
    refine (awake14_any w1).mono ?_
    rintro e w2 ⟨rfl, hB2⟩
    have HB := hB1.trans (hB2.mono hB1.size)
    clear hB1 hB2 haw
    go_wp2
    go_ret
    exact ⟨rfl, HB⟩
  · have HL : Hid (xs.length = n) := hn
    have HX : Hid (∀ x ∈ xs, 0 ≤ x ∧ x ≤ 255) := hx
    clear hn hx
    go_enter Try.func7, Try.ntmps7
    go_wp2_with (go_at_call 8; refine haw.mono ?_; rintro e w1 ⟨rfl, hB1⟩)
    have hc1 : ClockAt (w1.alloc (.cells #[.int .i64 0, .int .i64 0, .int .i64 0, .int .i64 0, .int .i64 0, .int .i64 0, .int .i64 0, .int .i64 0] 30)) w1.heap.size (List.replicate 8 0) := clock_new w1
    have hB2 := hB1.alloc hB1.size (.cells #[.int .i64 0, .int .i64 0, .int .i64 0, .int .i64 0, .int .i64 0, .int .i64 0, .int .i64 0, .int .i64 0] 30)
    refine (usual_any false _).mono ?_
    rintro e w2 ⟨rfl, hU⟩
    have hc2 := hc1.keep hU
    have HB2 : Hid (Below w.heap.size w w2) := hB2.trans (hU.mono hB2.size)
    have HC : Hid (w.heap.size ≤ w1.heap.size) := hB1.size
    have hnw := alu_any _ _ hc2
    clear hc1 hB2 hU hc2 hB1 haw
    go_wp2_with (go_at_call 10; refine hnw.mono ?_; rintro e w3 ⟨b, rfl, hb, hA3, hB3⟩; have HB3 : Hid (Below w.heap.size w w3) := HB2.out.trans (hB3.mono HB2.out.size); have hbe := begin_al b _ _ w3 hA3)
    generalize w1.heap.size = c at *
    have HC2 : Hid (w.heap.size ≤ c ∧ w.heap.size ≤ b) := ⟨HC.out, Nat.le_trans HB2.out.size hb⟩
    clear hnw hA3 hB3 hb
    refine hbe.mono ?_
    rintro e w4 ⟨rfl, hA4, hF4⟩
    have hB4 : Below w.heap.size w w4 := HB3.out.trans (hF4.below HC2.out.2 HC2.out.1 HB3.out.size)
    clear hbe hF4 HB3 HB2 HC
    have hst4 : (alU.begin_).st = 1 := rfl
    generalize alU.begin_ = A0 at *
    go_wp2_with fail
    go_loopw [5] (fun i wr => ∃ (k : Nat) (A : Al), k ≤ n ∧ i = .int .i64 k ∧ AlignAt wr b c A ∧ Below w.heap.size w wr ∧ (k = 0 ∧ A.st = 1 ∨ 1 ≤ k ∧ (A.st = 2 ∨ A.st = 3))) (fun i _ => n - (intOf i).toNat)
    case atStart => exact ⟨0, A0, by omega, rfl, hA4, hB4, .inl ⟨rfl, hst4⟩⟩
    case round =>
      clear hA4 hB4 hst4
      obtain ⟨k, A, hk, rfl, hA, hB, hst⟩ := hrel
      by_cases hlt : k < n
      · have hkl : k < xs.length := by have := HL.out; omega
        obtain ⟨g, off, rfl, hcell⟩ := (hr.below (Nat.le_refl _) hB) k (.int .u8 xs[k]) (by simp [hkl])
        have hxk := HX.out _ (List.getElem_mem hkl)
        generalize xs[k] = x at hcell hxk
        obtain ⟨x0, x1⟩ := hxk
        have hm : x.tmod 3 = x % 3 := Int.tmod_eq_emod_of_nonneg x0
        have hhe := heard_al b c A (x % 3) (by omega) wr hA
        have hst2 := heard_st A (x % 3) (by omega) (by omega)
        have HB : Hid (Below w.heap.size w wr) := hB
        have HS : Hid ((A.heard (x % 3)).st = 2 ∨ (A.heard (x % 3)).st = 3) := hst2
        clear hst2 hB hA hst
        go_wp2_with (go_at_call 13; refine hhe.mono ?_; rintro e w5 ⟨rfl, hA5, hF5⟩; have hB5 := HB.out.trans (hF5.below HC2.out.2 HC2.out.1 HB.out.size); clear hhe hF5)
        go_roundw
        case rel => exact ⟨k + 1, _, by omega, by go_num, hA5, hB5, .inr ⟨by omega, HS.out⟩⟩
        case measure => simp [intOf]; omega
      · obtain rfl : k = n := by omega
        have c0 := hA.all.1.1
        have hhe := heard_al b c A 3 (by omega) wr hA
        have HB : Hid (Below w.heap.size w wr) := hB
        have HS : Hid (k = 0 ∧ A.st = 1 ∨ 1 ≤ k ∧ (A.st = 2 ∨ A.st = 3)) := hst
        have HW : Hid (A.why 3 = if A.st = 1 then 0 else 8) := by
          show _ = _
          unfold Al.why
          by_cases h : A.st = 1
          · simp [h]
          · have : A.st ≠ 0 := by omega
            simp [h, this]
        generalize A.why 3 = v at *
        generalize A.heard 3 = A' at *
        generalize A.st = st at *
        clear hB hA hst
        rcases HS.out with ⟨rfl, rfl⟩ | ⟨h1, h2⟩
        · obtain rfl : v = 0 := HW.out
          go_wp2_with (go_at_call 13; refine hhe.mono ?_; rintro e w5 ⟨rfl, hA5, hF5⟩; have HB5 : Hid (Below w.heap.size w w5) := HB.out.trans (hF5.below HC2.out.2 HC2.out.1 HB.out.size); clear hhe hF5)
          go_ret
          exact ⟨rfl, HB5.out⟩
        · have hs1 : (st == 1) = false := by rw [beq_eq_false_iff_ne]; omega
          have hk0 : ((k : Int) == 0) = false := by rw [beq_eq_false_iff_ne]; omega
          obtain rfl : v = 8 := by have := HW.out; rwa [if_neg (by omega)] at this
          go_wp2_with (go_at_call 13; refine hhe.mono ?_; rintro e w5 ⟨rfl, hA5, hF5⟩; have HB5 : Hid (Below w.heap.size w w5) := HB.out.trans (hF5.below HC2.out.2 HC2.out.1 HB.out.size); clear hhe hF5)
          go_ret
          exact ⟨rfl, HB5.out⟩
end Go.Proofs.Ytmcjjminlbempaa.Tape
