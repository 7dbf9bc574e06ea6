/- CyclicForced's walk. -/
import Derived.Test.YtmnhciildlmjcaaCyc8
import Derived.Test.YtmnhciildlmjcaaMgs
namespace Go.Proofs.Ytmnhciildlmjcaa.Tape
open Go.ChangeShapes Go.WideShapes Go.ChangeAt Go.RowKit
set_option linter.unusedVariables false

theorem trip {α β γ : Type} {a a' : α} {b b' : β} {c c' : γ} (h1 : a = a') (h2 : b = b') (h3 : c = c') : (a, b, c) = (a', b', c') := by subst h1 h2 h3; rfl

/-- The Cyclic in a round of those that are sent again. -/
def fcS (k r i : Nat) : Cs := { cs0 k 10000 with force := decide (0 < r ∨ 0 < i), pl := if i = 0 then (if r = 0 then 0 else k) else i }
/-- Its messages: k wait, the others don't. -/
def fcH (k N : Nat) : Hs := ⟨60, 10000, 0, mgr 0 k, mgr k N⟩

theorem much_fc {k N : Nat} {t : Cs} (h1 : t.n1 = k) (hk : 0 < k) (hN : k < N) : t.much (fcH k N) = true := by
  unfold Cs.much Cs.fits fcH
  simp only [mgr_len, h1]
  rw [decide_eq_true (by omega : 0 < N - k), decide_eq_false (by omega : ¬ k - 0 = 0), decide_eq_false (by omega : ¬ ((k - 0 : Nat) : Int) < k)]
  rfl

theorem much_fc0 {k N i : Nat} (hi : i < k) (hk : k ≤ 10) (hN : i < N) (hN2 : N ≤ 20) : (cs0 k 10000).much ⟨60, 10000, 0, mgr 0 i, mgr i N⟩ = false := by
  have hs := sz_mgr 0 i
  rw [Nat.zero_add] at hs
  unfold Cs.much Cs.fits cs0 Hs.size
  simp only [mgr_len, hs, mgr_cons hN]
  rw [decide_eq_true (by omega : ((i - 0 : Nat) : Int) < k), decide_eq_true (by simp only [mg, List.length_cons, List.length_nil]; omega : ((3 * i + (mg i).length : Nat) : Int) ≤ 10000)]
  simp

theorem again_fc {k N r i : Nat} (hk : 0 < k) (hN : k < N) (hi : i < k) (hk10 : k ≤ 10) : (({ fcS k r i with force := true } : Cs).again (fcH k N)) = (fcS k r (i + 1), (i : Int), some (mg i)) := by
  have hm := much_fc (t := ({ fcS k r i with force := true } : Cs)) rfl hk hN
  have hlen : (fcH k N).sent.length = k := by simp [fcH, mgr_len]
  have hget : ∀ j, j < k → (fcH k N).sent[j]? = some (mg j) := fun j hj => by
    rw [List.getElem?_eq_getElem (by rw [hlen]; exact hj)]
    have := mgr_get 0 k j (by rw [mgr_len]; omega)
    rw [Nat.zero_add] at this
    exact congrArg some this
  have hS : ∀ (p : Nat) (f : Bool), p = i + 1 → f = true → ({ ({ fcS k r i with force := true } : Cs) with pl := p, force := f } : Cs) = fcS k r (i + 1) := fun p f hp hf => by
    subst hp hf
    unfold fcS
    simp
  unfold Cs.again
  rw [hm, hlen]
  by_cases h0 : i = 0
  · subst h0
    by_cases hr : r = 0
    · rw [if_pos (by simp only [fcS, hr, if_true]; exact hk)]
      have e1 : ({ fcS k r 0 with force := true } : Cs).pl = 0 := by simp [fcS, hr]
      rw [e1, hget 0 hk]
      exact trip (hS 1 true rfl rfl) rfl rfl
    · rw [if_neg (by simp only [fcS, hr, if_true, if_false]; omega), if_pos hk, hget 0 hk]
      exact trip (hS 1 true rfl rfl) rfl rfl
  · have e1 : ({ fcS k r i with force := true } : Cs).pl = i := by simp [fcS, h0]
    rw [e1, if_pos hi, hget i hi]
    exact trip (hS (i + 1) true rfl rfl) (show (((0 : Nat) : Int) + (i : Int)) % 128 = (i : Int) by omega) rfl

theorem fcS_next {k r : Nat} (hk : 0 < k) : fcS k r k = fcS k (r + 1) 0 := by
  unfold fcS
  simp
  omega

/-- A unit's FSN. -/
theorem field_fsn (b f : Int) (bib fib : Bool) (k : Int) (x : Value) (w : World) : (Instr.field 32 (.agg (uC b f bib fib k x)) 1).run Try.prog w = .ok (.int .u8 f) w := by
  show _ = _
  unfold uC
  kernel_rfl

attribute [local go_sem ↓] ldU_def stU_def

set_option maxRecDepth 100000 in
set_option maxHeartbeats 2000000 in
theorem forced_walk (x y : Int) (w : World) (h0 : 0 ≤ x) (h1 : x ≤ 255) (h2 : 0 ≤ y) (h3 : y ≤ 255) : Calls Try.prog 5 #[.int .u8 x, .int .u8 y] w fun e w' => e = .returned (.bool true) ∧ Below w.heap.size w w' := by
  obtain ⟨n, hn⟩ : ∃ n : Nat, x % 10 = n := ⟨(x % 10).toNat, by omega⟩
  have hn10 : n < 10 := by omega
  obtain ⟨k, hk⟩ : ∃ k : Nat, (1 : Int) + n = k := ⟨n + 1, by omega⟩
  have hk2 : 1 ≤ k ∧ k ≤ 10 := by omega
  obtain ⟨m, hm⟩ : ∃ m : Nat, y % 10 = m := ⟨(y % 10).toNat, by omega⟩
  obtain ⟨N, hN⟩ : ∃ N : Nat, (k : Int) + 1 + m = N := ⟨k + 1 + m, by omega⟩
  have hN2 : k < N ∧ N ≤ 20 := by omega
  have HN : Hid ((k : Int) + 1 + m = N) := hN
  have HM : Hid (y % 10 = m) := hm
  have HK : Hid ((1 : Int) + n = k) := hk
  clear hN hm hk
  go_enter Try.func5, Try.ntmps5
  go_wp2_with fail
  refine (awake12_any _).mono ?_
  rintro e w1 ⟨rfl, hB1⟩
  go_wp2_with fail
  try rw [hn]
  try rw [HK.out]
  refine (cnew_any 60 10000 k 10000 w.heap.size w1 (by omega) (by omega) (by omega) (by omega) hB1.size).mono ?_
  rintro e w2 ⟨p, hb, T, rfl, hin2, -, hB2⟩
  have hB0 : Below w.heap.size w w2 := hB1.trans (below_le hB2 hB1.size)
  clear hB1 hB2 hn h0 h1
  go_wp2_with fail
  have hm := HM.out
  have hN := HN.out
  go_loopw [7] (fun i wr => ∃ (q : Nat) (T1 : Nat → Prop), q ≤ N ∧ i = .int .i64 q ∧ CycIn wr p hb w.heap.size T1 (cs0 k 10000) ⟨60, 10000, 0, [], mgr 0 q⟩ ∧ Below w.heap.size w wr) (fun i _ => N - (intOf i).toNat)
  case atStart => exact ⟨0, T, by omega, rfl, hin2, hB0⟩
  case round =>
    clear hin2 hB0
    obtain ⟨q, T1, hq, rfl, hin, hB⟩ := hrel
    have hho := chold_any _ _ _ _ _ _ _ hin
    by_cases hlt : q < N
    · obtain ⟨W, hW⟩ : ∃ W, W = wr.alloc (.cells #[.int .u8 q, .int .u8 1, .int .u8 2] 5) := ⟨_, rfl⟩
      have hBW : Below wr.heap.size wr W := by rw [hW]; exact (Below.refl _ _).alloc (Nat.le_refl _) _
      have hrW : Reads W (some ⟨wr.heap.size, 0, none⟩) ((mg q).map (.int .u8)) := by rw [hW]; exact reads_lit wr [(q : Int), 1, 2] (0, 0)
      have hinW := hin.below hBW
      have HB : Hid (Below w.heap.size w W) := hB.trans (below_le hBW hB.size)
      have hput := hinW.put (some ⟨wr.heap.size, 0, none⟩) 3 3 (mg q) rfl hrW (by intro x hx; simp [mg] at hx; omega) HB.out.size (by omega) (by omega) (by simp only [mgr_len, List.length_nil]; omega) (by have := sz_mgr 0 q; rw [Nat.zero_add] at this; simp only [this, sz]; omega)
      simp only [mgr_snoc (Nat.zero_le q)] at hput
      have HIN : Hid (CycIn W p hb w.heap.size T1 (cs0 k 10000) ⟨60, 10000, 0, [], mgr 0 q⟩) := hinW
      clear hinW hrW hBW hB hin
      go_wp2_with (first
        | (go_at_call 10; refine hho.mono ?_; rintro e w3 ⟨rfl, hw3⟩; obtain rfl := hw3.symm; clear hw3)
        | (go_at_call 11; rw [← hW]; refine hput.mono ?_; rintro e w3 ⟨rfl, T3, hin3, hF3⟩; have hB3 := HB.out.trans (HIN.out.fbelow hF3 (Nat.le_refl _) HB.out.size)))
      go_roundw
      case rel => exact ⟨q + 1, T3, by omega, by go_num, hin3, hB3⟩
      case measure => simp [intOf]; omega
    · obtain rfl : q = N := by omega
      clear hho
      go_wp2_with fail
      have hin0 : CycIn wr p hb w.heap.size T1 (cs0 k 10000) ⟨60, 10000, 0, mgr 0 0, mgr 0 q⟩ := hin
      try rw [hm]
      clear hin hlt hq HN hN hm
      go_loopw [8] (fun i wr => ∃ (j : Nat) (T1 : Nat → Prop), j ≤ k ∧ i = .int .i64 j ∧ CycIn wr p hb w.heap.size T1 (cs0 k 10000) ⟨60, 10000, 0, mgr 0 j, mgr j q⟩ ∧ Below w.heap.size w wr) (fun i _ => k - (intOf i).toNat)
      case atStart => exact ⟨0, T1, by omega, rfl, hin0, hB⟩
      case round =>
        clear hin0 hB
        obtain ⟨j, T1, hj, rfl, hin, hB⟩ := hrel
        by_cases hlt : j < k
        · have hnx := next_send p hb w.heap.size T1 (cs0 k 10000) _ (mg j) (mgr (j + 1) q) wr hin rfl (much_fc0 hlt (by omega) (by omega) (by omega)) (mgr_cons (by omega)) (by simp only [mgr_len]; omega) hB.size
          have e1 : (((0 : Nat) : Int) + ((mgr 0 j).length : Nat)) % 128 = j := by simp only [mgr_len]; omega
          simp only [e1, mgr_snoc (Nat.zero_le j)] at hnx
          rw [show (cs0 k 10000).last = 127 from rfl] at hnx
          have HIN : Hid (CycIn wr p hb w.heap.size T1 (cs0 k 10000) ⟨60, 10000, 0, mgr 0 j, mgr j q⟩) := hin
          have HB : Hid (Below w.heap.size w wr) := hB
          clear hin hB e1
          go_wp2_with fail
          refine hnx.mono ?_
          rintro e w5 ⟨v, T5, rfl, hm5, hin5, hF5⟩
          obtain ⟨g5, c5, rfl, hc5⟩ := hm5.three (j : Int) 1 2 rfl
          obtain ⟨W5, hst5, hB5, hh5⟩ := kept_unit w5 127 j true true 2 (some ⟨g5, 0, none⟩) 3 c5
          obtain ⟨y0, y1, y2, y3, y4, y7⟩ := uC_cells hh5
          have HB5 : Hid (Below w.heap.size w W5) := (HB.out.trans (HIN.out.fbelow hF5 (Nat.le_refl _) HB.out.size)).trans (below_le hB5 (Nat.le_trans HB.out.size hF5.size))
          have HIN5 : Hid (CycIn W5 p hb w.heap.size T5 (cs0 k 10000) ⟨60, 10000, 0, mgr 0 (j + 1), mgr (j + 1) q⟩) := hin5.below hB5
          clear hm5 hin5 hF5 hnx hB5 hh5 hc5
          go_wp2
          go_roundw
          case rel => exact ⟨j + 1, T5, by omega, by go_num, HIN5.out, HB5.out⟩
          case measure => simp [intOf]; omega
        · obtain rfl : j = k := by omega
          have hin1 : CycIn wr p hb w.heap.size T1 (fcS j 0 0) (fcH j q) := by
            have : fcS j 0 0 = cs0 j 10000 := by simp [fcS, cs0]
            rw [this]
            exact hin
          clear hin hlt hj
          go_wp2_with fail
          go_loopw [10] (fun i wr => ∃ r : Nat, r ≤ 3 ∧ i = .int .i64 r ∧ CycIn wr p hb w.heap.size T1 (fcS j r 0) (fcH j q) ∧ Below w.heap.size w wr) (fun i _ => 3 - (intOf i).toNat)
          case atStart => exact ⟨0, by omega, rfl, hin1, hB⟩
          case round =>
            clear hin1 hB
            obtain ⟨r, hr, rfl, hin, hB⟩ := hrel
            by_cases hlt : r < 3
            · go_wp2_with fail
              rw [show decide ((r : Int) < 3) = true from decide_eq_true (by omega)]
              go_loopw [11] (fun i wr => ∃ i' : Nat, i' ≤ j ∧ i = .int .i64 i' ∧ CycIn wr p hb w.heap.size T1 (fcS j r i') (fcH j q) ∧ Below w.heap.size w wr) (fun i _ => j - (intOf i).toNat)
              case atStart => exact ⟨0, by omega, rfl, hin, hB⟩
              case round =>
                clear hin hB
                obtain ⟨i', hi', rfl, hin, hB⟩ := hrel
                by_cases hlt : i' < j
                · have hnx := next_force p hb w.heap.size T1 (fcS j r i') { fcS j r i' with force := true } _ wr hin rfl (.inr (much_fc rfl (by omega) (by omega))) hB.size
                  rw [again_fc (by omega) (by omega) hlt (by omega), show (fcS j r i').last = 127 from rfl] at hnx
                  simp only [kd] at hnx
                  have HIN : Hid (CycIn wr p hb w.heap.size T1 (fcS j r i') (fcH j q)) := hin
                  have HB : Hid (Below w.heap.size w wr) := hB
                  clear hin hB
                  go_wp2_with fail
                  refine hnx.mono ?_
                  rintro e w5 ⟨v, rfl, hm5, hin5, hF5⟩
                  obtain ⟨g5, c5, rfl, hc5⟩ := HMsg.three hm5 (i' : Int) 1 2 rfl
                  obtain ⟨W5, hst5, hB5, hh5⟩ := kept_unit w5 127 i' true true 2 (some ⟨g5, 0, none⟩) 3 c5
                  obtain ⟨y0, y1, y2, y3, y4, y7⟩ := uC_cells hh5
                  have HB5 : Hid (Below w.heap.size w W5) := (HB.out.trans (HIN.out.fbelow hF5 (Nat.le_refl _) HB.out.size)).trans (below_le hB5 (Nat.le_trans HB.out.size hF5.size))
                  have HIN5 : Hid (CycIn W5 p hb w.heap.size T1 (fcS j r (i' + 1)) (fcH j q)) := hin5.below hB5
                  have hre := cresends_any _ _ _ _ _ _ _ HIN5.out
                  rw [show (fcS j r (i' + 1)).force = true by simp [fcS]] at hre
                  clear hm5 hin5 hF5 hnx hB5 hh5 hc5
                  go_wp2_with (go_at_call 21; refine hre.mono ?_; rintro e w6 ⟨rfl, hw6⟩; obtain rfl := hw6.symm; clear hw6)
                  go_roundw
                  case rel => exact ⟨i' + 1, by omega, by go_num, HIN5.out, HB5.out⟩
                  case measure => simp [intOf]; omega
                · obtain rfl : i' = j := by omega
                  rw [fcS_next (by omega)] at hin
                  have HIN : Hid (CycIn wr p hb w.heap.size T1 (fcS i' (r + 1) 0) (fcH i' q)) := hin
                  have HB : Hid (Below w.heap.size w wr) := hB
                  clear hin hB hi'
                  go_wp2_with fail
                  go_roundw
                  case rel => exact ⟨r + 1, by omega, by go_num, HIN.out, HB.out⟩
                  case measure => simp [intOf]; omega
            · obtain rfl : r = 3 := by omega
              have hkn : (fcH j q).knows ((j - 1 : Nat) : Int) = true := by
                unfold Hs.knows fcH
                rw [decide_eq_true_iff]
                simp only [mgr_len]
                omega
              have hup : (fcH j q).upTo ((j - 1 : Nat) : Int) = j := by
                unfold Hs.upTo fcH
                simp only
                omega
              have hfr : (fcH j q).free ((j - 1 : Nat) : Int) = ⟨60, 10000, j, [], mgr j q⟩ := by
                unfold Hs.free
                rw [hup]
                simp only [fcH, Hs.mk.injEq, true_and, and_true]
                refine ⟨by omega, ?_⟩
                rw [mgr_drop, Nat.zero_add, mgr_nil (Nat.le_refl _)]
              have hans := answer_ok p hb w.heap.size T1 (fcS j 3 0) (fcH j q) ((j - 1 : Nat) : Int) 0 0 0 true true false (.slice none 0 0) j wr hin (by omega) hkn hup.symm
              rw [hfr] at hans
              have ht : ({ fcS j 3 0 with b0 := false, b1 := (fcS j 3 0).b0, pl := (fcS j 3 0).pl - j } : Cs) = { cs0 j 10000 with force := true } := by
                simp [fcS, cs0]
              rw [ht] at hans
              obtain ⟨z, hz⟩ : ∃ z : Nat, z = j - 1 := ⟨_, rfl⟩
              rw [← hz] at hans
              have hz1 : (j : Int) - 1 = z := by omega
              have hz255 : z ≤ 9 := by omega
              have HIN : Hid (CycIn wr p hb w.heap.size T1 (fcS j 3 0) (fcH j q)) := hin
              have HB : Hid (Below w.heap.size w wr) := hB
              clear hkn hup hfr ht hin hB hz
              go_wp2_with fail
              refine hans.mono ?_
              rintro e w3 ⟨rfl, T3, hin3, hF3⟩
              have HB3 : Hid (Below w.heap.size w w3) := HB.out.trans (HIN.out.fbelow hF3 (Nat.le_refl _) HB.out.size)
              have hag : (({ cs0 j 10000 with force := true } : Cs).again ⟨60, 10000, j, [], mgr j q⟩) = (cs0 j 10000, (z : Int), none) := by
                unfold Cs.again
                simp only [List.length_nil]
                rw [if_neg (by omega), if_neg (by omega)]
                refine trip ?_ ?_ rfl
                · unfold Cs.much Cs.fits cs0
                  simp
                · unfold Hs.last
                  simp only [List.length_nil]
                  omega
              have hnx := next_force p hb w.heap.size T3 { cs0 j 10000 with force := true } { cs0 j 10000 with force := true } _ w3 hin3 rfl (.inl rfl) HB3.out.size
              rw [hag, show ({ cs0 j 10000 with force := true } : Cs).last = 127 from rfl] at hnx
              simp only [kd, InfoAt] at hnx
              have HIN3 : Hid (CycIn w3 p hb w.heap.size T3 { cs0 j 10000 with force := true } ⟨60, 10000, j, [], mgr j q⟩) := hin3
              clear hin3 hF3 hans hag
              go_wp2_with fail
              refine hnx.mono ?_
              rintro e w4 ⟨v, rfl, rfl, hin4, hF4⟩
              obtain ⟨W5, hst5, hB5, hh5⟩ := kept_unit w4 127 z true true 0 none 0 0
              have HB5 : Hid (Below w.heap.size w W5) := (HB3.out.trans (HIN3.out.fbelow hF4 (Nat.le_refl _) HB3.out.size)).trans (below_le hB5 (Nat.le_trans HB3.out.size hF4.size))
              have hin5 := hin4.below hB5
              have hmu : (cs0 j 10000).much ⟨60, 10000, j, [], mgr j q⟩ = false := by
                unfold Cs.much Cs.fits
                simp
              have hnx5 := next_send p hb w.heap.size T3 (cs0 j 10000) _ (mg j) (mgr (j + 1) q) W5 hin5 rfl hmu (mgr_cons (by omega)) (by simp) HB5.out.size
              have e1 : (((j : Nat) : Int) + ((([] : List (List Int)).length : Nat) : Int)) % 128 = j := by simp only [List.length_nil]; omega
              simp only [e1, List.nil_append] at hnx5
              rw [show (cs0 j 10000).last = 127 from rfl] at hnx5
              have HIN5 : Hid (CycIn W5 p hb w.heap.size T3 (cs0 j 10000) ⟨60, 10000, j, [], mgr j q⟩) := hin5
              have HH5 : Hid (W5.heap[w4.heap.size]? = some (.cells (uC 127 z true true 0 (.slice none 0 0)) 32 (0, 0))) := hh5
              clear hin4 hin5 hF4 hnx hB5 hh5 hmu e1
              go_wp2_with fail
              refine hnx5.mono ?_
              rintro e w6 ⟨v, T6, rfl, hm6, hin6, hF6⟩
              obtain ⟨g6, c6, rfl, hc6⟩ := hm6.three (j : Int) 1 2 rfl
              have hu6 := (hF6.block _ (heap_lt HH5.out) (HIN5.out.at_.not37 _ _ HH5.out)).trans HH5.out
              obtain ⟨W7, hst7, hB7, hh7⟩ := kept_unit w6 127 j true true 2 (some ⟨g6, 0, none⟩) 3 c6
              have hu7 := (hB7.block _ (heap_lt hu6)).trans hu6
              obtain ⟨y0, y1, y2, y3, y4, y7⟩ := uC_cells hh7
              obtain ⟨x0, x1, x2, x3, x4, x7⟩ := uC_cells hu7
              have hin7 := hin6.below hB7
              have hre := cresends_any _ _ _ _ _ _ _ hin7
              have hho := chold_any _ _ _ _ _ _ _ hin7
              have hse := sent_any _ _ _ _ _ hin7.hold
              rw [show (cs0 j 10000).force = false from rfl] at hre
              simp only [List.length_cons, List.length_nil] at hse
              have HB7 : Hid (Below w.heap.size w W7) := (HB5.out.trans (HIN5.out.fbelow hF6 (Nat.le_refl _) HB5.out.size)).trans (below_le hB7 (Nat.le_trans HB5.out.size hF6.size))
              clear hm6 hin6 hF6 hnx5 hB7 hh7 hu6 hu7 hin7 hc6 hst5
              go_wp2_with (first
                | (go_at_call 21; refine hre.mono ?_; rintro e w8 ⟨rfl, hw8⟩; obtain rfl := hw8.symm; clear hw8)
                | (go_at_call 10; refine hho.mono ?_; rintro e w8 ⟨rfl, hw8⟩; obtain rfl := hw8.symm; clear hw8)
                | (go_at_call 20; refine hse.mono ?_; rintro e w8 ⟨rfl, hw8⟩; obtain rfl := hw8.symm; clear hw8))
              go_ret
              exact ⟨rfl, HB7.out⟩
end Go.Proofs.Ytmnhciildlmjcaa.Tape
