/- The walk of the law StateSends. -/
import Derived.Test.YtldjglmelbkngaaGreatInv3
import Derived.Test.YtldjglmelbkngaaGreatActs17
namespace Go.Proofs.YtldjglmelbkngaaGreat.Tape
open Go.ChangeShapes Go.WideShapes Go.ChangeAt Go.RowKit
set_option linter.unusedVariables false

attribute [local go_sem ↓] ldU_def stU_def ldAc_def

set_option maxRecDepth 100000 in
set_option maxHeartbeats 4000000 in
theorem sends_walk (c : Bool) (a : Option Addr) (len cap : Nat) (w : World) (h : len ≤ maxLen ∧ Acts w a len) : Calls Tryz.prog 4 #[.bool c, .slice a len cap] w fun e w' => e = .returned (.bool true) ∧ Below w.heap.size w w' := by
  obtain ⟨hlm, hac⟩ := h
  unfold maxLen at hlm
  have haw := awake17_any w
  by_cases hlong : 120 < len
  · have hd : decide ((120 : Int) < (len : Int)) = true := by rw [decide_eq_true_iff]; omega
    clear hac
    go_enter Tryz.func4, Tryz.ntmps4
    go_wp2_with fail
    refine haw.mono ?_
    rintro e w1 ⟨rfl, hB1⟩
    have haw2 := awake17_any w1
    clear haw
    go_wp2_with fail
    refine haw2.mono ?_
    rintro e w2 ⟨rfl, hB2⟩
    go_wp2
    go_ret
    exact ⟨rfl, hB1.trans (below_le hB2 hB1.size)⟩
  have hd : decide ((120 : Int) < (len : Int)) = false := by rw [decide_eq_false_iff_not]; omega
  have hl120 : len ≤ 120 := by omega
  have HAC : Hid (Acts w a len) := hac
  clear hac
  go_enter Tryz.func4, Tryz.ntmps4
  go_wp2_with fail
  refine haw.mono ?_
  rintro e w1 ⟨rfl, hB1⟩
  have hqu := quick_any c w1
  have HB1 : Hid (Below w.heap.size w w1) := hB1
  clear haw hB1 hlong
  go_wp2_with fail
  refine hqu.mono ?_
  rintro e w2 ⟨rfl, hB2⟩
  have hne := quicknew_any c w2
  have HB2 : Hid (Below w.heap.size w w2) := HB1.out.trans (below_le hB2 HB1.out.size)
  clear hqu hB2 HB1
  go_wp2_with fail
  refine hne.mono ?_
  rintro e w3 ⟨P, rfl, hcy, hPB, hA⟩
  have HK : Hid (Keep w P 0 w3) := ⟨_, new_iv c, by rw [(new_told c).1]; simp, by rw [(new_told c).2.1]; decide, (hA.base HB2.out).mono (by omega)⟩
  clear hne hcy hPB HB2 hA hd
  go_wp2_with fail
  go_loopw [6] (fun i wr => ∃ j : Nat, j ≤ len ∧ i = .int .i64 j ∧ Hid (Keep w P j wr)) (fun i _ => len - (intOf i).toNat)
  case atStart => exact ⟨0, by omega, rfl, HK⟩
  case round =>
    clear HK
    obtain ⟨j, hj, rfl, HK⟩ := hrel
    by_cases hl : j < len
    · have hd : decide ((j : Int) < (len : Int)) = true := by rw [decide_eq_true_iff]; omega
      obtain ⟨x, hI, ht, hf, hA⟩ := HK.out
      obtain ⟨g, off, rfl, k, y, b, f, p, q, kd, st, wd, ao, n, cap', xs, c9, hld, k0, y0, b0, f0, kd0, hn, hnm, hnil, hrd⟩ := HAC.out.at_ hA.below j hl
      clear HK
      by_cases h50 : 50 < n
      · have hd5 : decide ((50 : Int) < (n : Int)) = true := by rw [decide_eq_true_iff]; omega
        have HB : Hid (Below w.heap.size w wr) := hA.below
        clear hA hrd hld hnil h50
        go_wp2
        go_ret
        exact ⟨rfl, HB.out⟩
      · have hd5 : decide ((50 : Int) < (n : Int)) = false := by rw [decide_eq_false_iff_not]; omega
        have hdo := do_any (w0 := w) (P := P) x hI (by omega) (by omega) k y b f p q kd st wd ao n cap' xs k0 y0 b0 f0 kd0 hn (by omega) hnil hrd wr hA
        have HX : Hid (x.told.length ≤ 6 * j ∧ 0 ≤ x.fl ∧ x.fl ≤ j) := ⟨ht, hf⟩
        clear hA hrd hnil h50 hI ht hf k0 y0 b0 f0 kd0 hn hnm
        go_wp2_with fail
        refine hdo.mono ?_
        rintro e w4 ⟨rfl, x', hD, hA⟩
        have HD : Hid (DoR x x') := hD
        have hnx := hA.next
        obtain ⟨i1, e1, e2, e3, e4, e5⟩ := next_iv hD.1
        have hok := sends_ok hD.1
        clear hdo hA c9 hld hD
        go_wp2_with fail
        refine hnx.mono ?_
        rintro e w5 ⟨⟨a', b', c', d', ao', n', cap2, rfl⟩, hA⟩
        have HK5 : Hid (Keep w P (j + 1) w5) := by
          have hg := HD.out.grow
          have := HX.out
          exact ⟨_, i1, by rw [e1]; omega, by rw [e2]; omega, hA⟩
        obtain ⟨W6, hst6, hB6, hh6⟩ := kept_any w5 #[.int .u8 a', .int .u8 b', .bool c', .bool d', .int .u8 x'.nk, .int .u8 x'.ns, .bool false, .slice ao' n' cap2] rfl (by simp [Value.oneCell'])
        have hA6 := hA.keep hB6
        have HK6 : Hid (Keep w P (j + 1) W6) := HK5.out.elim fun x e => ⟨x, e.1, e.2.1, e.2.2.1, e.2.2.2.keep hB6⟩
        obtain ⟨⟨-, -, -, -, u4, u5, -⟩, -⟩ := unit_cells hh6
        obtain ⟨s0, -, s3, -, s5, -, j0⟩ := hA6.all
        rw [e3] at s0
        rw [e5] at s5
        rw [e4] at j0
        generalize x'.nk = nk at *
        generalize x'.ns = ns at *
        generalize x'.s = s at *
        generalize x'.own = own at *
        generalize x'.J.own = jo at *
        clear hnx hA hB6 hh6 hA6 i1 e1 e2 e3 e4 e5 HK5 HD HX
        have hok2 : (s = 0 ∧ nk = 1 ∧ ns = 3) ∨ (s = 1 ∧ nk = 1 ∧ ns ≤ 2) ∨ (s = 2 ∧ nk = 0) ∨ (s = 3 ∧ nk = 1 ∧ ns = 4) ∨ (s = 5 ∧ own = true ∧ nk = 1 ∧ ns = 4) ∨ (s = 5 ∧ own = false ∧ nk = 0) ∨ (s = 4 ∧ own = false ∧ nk = 1 ∧ ns = 5 ∧ jo = true) ∨ (s = 4 ∧ own = false ∧ nk = 0) ∨ (s = 4 ∧ own = false ∧ nk = 2) := by
          rcases hok with h | h | h | ⟨h, -, h2⟩ | h | h | h | ⟨h, h2, h3 | h3⟩
          · exact .inl h
          · exact .inr (.inl h)
          · exact .inr (.inr (.inl h))
          · exact .inr (.inr (.inr (.inl ⟨h, h2⟩)))
          · exact .inr (.inr (.inr (.inr (.inl h))))
          · exact .inr (.inr (.inr (.inr (.inr (.inl h)))))
          · exact .inr (.inr (.inr (.inr (.inr (.inr (.inl h))))))
          · exact .inr (.inr (.inr (.inr (.inr (.inr (.inr (.inl ⟨h, h2, h3⟩)))))))
          · exact .inr (.inr (.inr (.inr (.inr (.inr (.inr (.inr ⟨h, h2, h3⟩)))))))
        clear hok
        have hns : ns ≤ 2 → decide (ns ≤ 2) = true := fun e => decide_eq_true e
        go_upto_region 11 with fail
        clear hst6
        rcases hok2 with ⟨rfl, rfl, rfl⟩ | ⟨rfl, rfl, h2⟩ | ⟨rfl, rfl⟩ | ⟨rfl, rfl, rfl⟩ | ⟨rfl, rfl, rfl, rfl⟩ | ⟨rfl, rfl, rfl⟩ | ⟨rfl, rfl, rfl, rfl, rfl⟩ | ⟨rfl, rfl, rfl⟩ | ⟨rfl, rfl, rfl⟩
        case' inr.inl => have hns := hns h2
        case' inl => cases own
        case' inr.inl => cases own
        case' inr.inr.inl => cases own
        case' inr.inr.inr.inl => cases own
        all_goals
          go_wp2_with fail
          go_roundw
          case rel => exact ⟨j + 1, by omega, by go_num, HK6⟩
          case measure => simp [intOf]; omega
    · have hd : decide ((j : Int) < (len : Int)) = false := by rw [decide_eq_false_iff_not]; omega
      have HB : Hid (Below w.heap.size w wr) := HK.out.elim fun x e => e.2.2.2.below
      clear HK
      go_wp2
      go_ret
      exact ⟨rfl, HB.out⟩
end Go.Proofs.YtldjglmelbkngaaGreat.Tape
