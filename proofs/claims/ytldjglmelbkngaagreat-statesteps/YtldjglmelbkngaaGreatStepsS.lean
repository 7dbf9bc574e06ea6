/- The walk of the law StateSteps. -/
import Derived.Test.YtldjglmelbkngaaGreatInv3
import Derived.Test.YtldjglmelbkngaaGreatActs17
namespace Go.Proofs.YtldjglmelbkngaaGreat.Tape
open Go.ChangeShapes Go.WideShapes Go.ChangeAt Go.RowKit
set_option linter.unusedVariables false

attribute [local go_sem ↓] ldU_def stU_def ldAc_def

theorem cntK_take {ts : List Td} {m : Nat} {t : Td} (h : ts[m]? = some t) (k : Int) : cntK k (ts.take (m + 1)) = cntK k (ts.take m) + (if t.1 = k then 1 else 0) := by
  have hm := (List.getElem?_eq_some_iff.1 h)
  obtain ⟨hl, he⟩ := hm
  rw [List.take_succ_eq_append_getElem hl, cntK_app, he]
  simp [cntK]
/-- What the law keeps of its State, act by act: all that was told is asked for. -/
def KeepS (w : World) (P : Pl) (j : Nat) (f : Int) (W : World) : Prop := ∃ x, Iv x ∧ x.told = [] ∧ x.fl = f ∧ (0 ≤ f ∧ f ≤ j) ∧ LA w P 250 x noK W

/-- What an act does, way by way. -/
def armsL : List (Int × Int × Int × Int) := [(0, 0, 0, 0), (0, 1, 0, 0), (1, 1, 0, 0), (1, 2, 0, 0), (1, 3, 0, 0), (1, 0, 0, 1), (2, 2, 0, 0), (2, 3, 0, 0), (2, 4, 1, 0), (2, 5, 1, 0), (2, 0, 0, 1), (2, 0, 1, 1), (3, 2, 0, 0), (3, 3, 0, 0), (3, 4, 1, 0), (3, 5, 1, 0), (3, 0, 0, 1), (3, 0, 1, 1), (4, 4, 0, 0), (4, 5, 0, 0), (4, 0, 0, 1), (5, 4, 0, 0), (5, 5, 0, 0), (5, 0, 0, 1)]
theorem qa_arms {was now : Int} {ts : List Td} (h : QA was now ts) : (was, now, (cntK 1 ts : Int), (cntK 2 ts : Int)) ∈ armsL := by
  obtain ⟨-, h⟩ := h
  generalize cntK 1 ts = n1 at *
  generalize cntK 2 ts = n2 at *
  unfold armsL
  rcases h with ⟨rfl, hn, h1, h2⟩ | ⟨rfl, h1, hr⟩ | ⟨hw, hr⟩ | ⟨hw, h1, hr⟩
  · rcases hn with rfl | rfl <;> simp [h1, h2]
  · rcases hr with ⟨hn, h2⟩ | ⟨rfl, h2⟩
    · rcases hn with rfl | rfl | rfl <;> simp [h1, h2]
    · simp [h1, h2]
  · rcases hr with ⟨hn, h1, h2⟩ | ⟨hn, h1, h2⟩ | ⟨rfl, h1, h2⟩
    · rcases hw with rfl | rfl <;> rcases hn with rfl | rfl <;> simp [h1, h2]
    · rcases hw with rfl | rfl <;> rcases hn with rfl | rfl <;> simp [h1, h2]
    · have : n1 = 0 ∨ n1 = 1 := by omega
      rcases hw with rfl | rfl <;> rcases this with h | h <;> simp [h, h2]
  · rcases hr with ⟨hn, h2⟩ | ⟨rfl, h2⟩
    · rcases hw with rfl | rfl <;> rcases hn with rfl | rfl <;> simp [h1, h2]
    · rcases hw with rfl | rfl <;> simp [h1, h2]

set_option maxRecDepth 100000 in
set_option maxHeartbeats 4000000 in
theorem steps_walk (c : Bool) (a : Option Addr) (len cap : Nat) (w : World) (h : len ≤ maxLen ∧ Acts w a len) : Calls Tryz.prog 3 #[.bool c, .slice a len cap] w fun e w' => e = .returned (.bool true) ∧ Below w.heap.size w w' := by
  obtain ⟨hlm, hac⟩ := h
  unfold maxLen at hlm
  have haw := awake17_any w
  by_cases hlong : 120 < len
  · have hd : decide ((120 : Int) < (len : Int)) = true := by rw [decide_eq_true_iff]; omega
    clear hac
    go_enter Tryz.func3, Tryz.ntmps3
    go_wp2_with fail
    refine haw.mono ?_
    rintro e w1 ⟨rfl, hB1⟩
    have haw2 := awake17_any w1
    clear haw
    go_wp2_with fail
    refine haw2.mono ?_
    rintro e w2 ⟨rfl, hB2⟩
    go_wp2
    go_ret
    exact ⟨rfl, hB1.trans (below_le hB2 hB1.size)⟩
  have hd : decide ((120 : Int) < (len : Int)) = false := by rw [decide_eq_false_iff_not]; omega
  have hl120 : len ≤ 120 := by omega
  have HAC : Hid (Acts w a len) := hac
  clear hac
  go_enter Tryz.func3, Tryz.ntmps3
  go_wp2_with fail
  refine haw.mono ?_
  rintro e w1 ⟨rfl, hB1⟩
  have hqu := quick_any c w1
  have HB1 : Hid (Below w.heap.size w w1) := hB1
  clear haw hB1 hlong
  go_wp2_with fail
  refine hqu.mono ?_
  rintro e w2 ⟨rfl, hB2⟩
  have hne := quicknew_any c w2
  have HB2 : Hid (Below w.heap.size w w2) := HB1.out.trans (below_le hB2 HB1.out.size)
  clear hqu hB2 HB1
  go_wp2_with fail
  refine hne.mono ?_
  rintro e w3 ⟨P, rfl, hcy, hPB, hA⟩
  have HK : Hid (KeepS w P 0 0 w3) := ⟨_, new_iv c, (new_told c).1, (new_told c).2.1, by decide, (hA.base HB2.out).mono (by omega)⟩
  clear hne hcy hPB HB2 hA hd
  go_wp2_with fail
  go_loopw [6, 7, 8] (fun sv ou i wr => ∃ (j : Nat) (v f : Int), j ≤ len ∧ sv = .int .i64 v ∧ ou = .int .i64 f ∧ i = .int .i64 j ∧ Hid (KeepS w P j f wr)) (fun _ _ i _ => len - (intOf i).toNat)
  case atStart => exact ⟨0, 0, 0, by omega, rfl, rfl, rfl, HK⟩
  case round =>
    clear HK
    obtain ⟨j, v, f, hj, rfl, rfl, rfl, HK⟩ := hrel
    by_cases hl : j < len
    · have hd : decide ((j : Int) < (len : Int)) = true := by rw [decide_eq_true_iff]; omega
      obtain ⟨x, hI, ht, hfe, hf, hA⟩ := HK.out
      obtain ⟨g, off, rfl, k, y, b, f9, p, q, kd, st, wd, ao, n, cap', xs, c9, hld, k0, y0, b0, f0, kd0, hn, hnm, hnil, hrd⟩ := HAC.out.at_ hA.below j hl
      clear HK
      by_cases h50 : 50 < n
      · have hd5 : decide ((50 : Int) < (n : Int)) = true := by rw [decide_eq_true_iff]; omega
        have HB : Hid (Below w.heap.size w wr) := hA.below
        clear hA hrd hld hnil h50
        go_wp2
        go_ret
        exact ⟨rfl, HB.out⟩
      · have hd5 : decide ((50 : Int) < (n : Int)) = false := by rw [decide_eq_false_iff_not]; omega
        have hdo := do_any (w0 := w) (P := P) x hI (by rw [ht]; simp) (by rw [hfe]; omega) k y b f9 p q kd st wd ao n cap' xs k0 y0 b0 f0 kd0 hn (by omega) hnil hrd wr hA
        have s0 := hA.all.1
        have HX : Hid (x.told = [] ∧ x.fl = f) := ⟨ht, hfe⟩
        clear hA hrd hnil h50 hI ht hfe k0 y0 b0 f0 kd0 hn hnm
        go_wp2_with fail
        refine hdo.mono ?_
        rintro e w4 ⟨rfl, x', hD, hA⟩
        have s1 := hA.all.1
        have hto := hA.told
        obtain ⟨hI', ts, hG, hQ⟩ := hD
        rw [hG.told, HX.out.1, List.nil_append] at hto
        have HG : Hid (Wy ts ∧ x'.fl = f + (cntK 2 ts : Int) ∧ QA x.s x'.s ts ∧ Iv x') := ⟨hG.wy, by rw [hG.fl, HX.out.2], hQ, hI'⟩
        clear hdo hA c9 hld hI' hG hQ s0
        go_wp2_with fail
        refine hto.mono ?_
        rintro e w5 ⟨tv, rfl, hA⟩
        obtain ⟨ta, tcap, rfl, hcell⟩ := hA.read
        have hfl := hA.fails
        rw [took_fl, HG.out.2.1] at hfl
        have hlen : (tdL ts).length = ts.length := by simp [tdL]
        rw [hlen]
        have HK5 : Hid (KeepS w P (j + 1) (f + (cntK 2 ts : Int)) w5) := by
          have := HG.out.2.2.1.1
          have h2 : cntK 2 ts ≤ 1 := by have := HG.out.2.2.1.2; omega
          exact ⟨x'.took, HG.out.2.2.2.took, rfl, (took_fl x').trans HG.out.2.1, by omega, (LA.room hA.no (HG.out.2.2.2.took.room (by show 0 ≤ 740; omega) (by rw [took_fl, HG.out.2.1]; omega)))⟩
        have HC : Hid (∀ m t, ts[m]? = some t → ∃ g, ta = some ⟨g, 0, none⟩ ∧ w5.cell? ⟨g, m * 3, none⟩ = some (.int .u8 t.1) ∧ w5.cell? ⟨g, m * 3 + 1, none⟩ = some (.int .u8 t.2.1)) := fun m t hm => by
          obtain ⟨g, e, hc⟩ := hcell m (tdC t.1 t.2.1 t.2.2) (by simp [tdL, hm])
          exact ⟨g, e, by simpa [tdC] using hc 0 (by omega), by simpa [tdC] using hc 1 (by omega)⟩
        have HQ : Hid (QA x.s x'.s ts) := HG.out.2.2.1
        have hts : ts.length ≤ 6 := HG.out.2.2.1.1
        have HW : Hid (Wy ts) := HG.out.1
        generalize x.s = was at *
        generalize x'.s = now at *
        clear hto hA hcell hlen s1 HG HX
        go_wp2_with fail
        go_loopw [12, 13, 14] (fun ni no i wq => ∃ m n1 n2 : Nat, m ≤ ts.length ∧ ni = .int .i64 n1 ∧ no = .int .i64 n2 ∧ i = .int .i64 m ∧ wq = w5 ∧ (n1 ≤ m ∧ n2 ≤ m) ∧ Hid (n1 = cntK 1 (ts.take m) ∧ n2 = cntK 2 (ts.take m))) (fun _ _ i _ => ts.length - (intOf i).toNat)
        case atStart => exact ⟨0, 0, 0, by omega, rfl, rfl, rfl, rfl, by omega, rfl, rfl⟩
        case round =>
          obtain ⟨m, n1, n2, hm, rfl, rfl, rfl, rfl, hnm, HN⟩ := hrel
          by_cases hlm : m < ts.length
          · have hdm : decide ((m : Int) < (ts.length : Int)) = true := by rw [decide_eq_true_iff]; omega
            obtain ⟨t, htm⟩ : ∃ t, ts[m]? = some t := ⟨ts[m], List.getElem?_eq_getElem hlm⟩
            obtain ⟨g1, rfl, d0, d1⟩ := HC.out m t htm
            have HT : Hid (cntK 1 (ts.take (m + 1)) = n1 + (if t.1 = 1 then 1 else 0) ∧ cntK 2 (ts.take (m + 1)) = n2 + (if t.1 = 2 then 1 else 0)) := ⟨by rw [cntK_take htm, HN.out.1], by rw [cntK_take htm, HN.out.2]⟩
            have hwy := HW.out t (List.mem_of_getElem? htm)
            clear htm hfl
            generalize t.1 = kk at *
            generalize t.2.1 = ww at *
            by_cases h1 : kk = 1
            · subst h1
              clear hwy
              go_wp2_with fail
              go_roundw
              case rel => exact ⟨m + 1, n1 + 1, n2, by omega, by go_num, by go_num, by go_num, by first | rfl | trivial, by omega, by have := HT.out.1; rw [if_pos rfl] at this; exact this.symm, by have := HT.out.2; rw [if_neg (by decide)] at this; exact this.symm⟩
              case measure => simp [intOf]; omega
            · have k1 : (kk == 1) = false := by rw [beq_eq_false_iff_ne]; exact h1
              by_cases h2 : kk = 2
              · subst h2
                have hw1 : (ww == 0) = false := by rw [beq_eq_false_iff_ne]; have := hwy rfl; omega
                have hw2 : decide (10 < ww) = false := by rw [decide_eq_false_iff_not]; have := hwy rfl; omega
                clear hwy
                go_wp2_with fail
                go_roundw
                case rel => exact ⟨m + 1, n1, n2 + 1, by omega, by go_num, by go_num, by go_num, by first | rfl | trivial, by omega, by have := HT.out.1; rw [if_neg (by decide)] at this; exact this.symm, by have := HT.out.2; rw [if_pos rfl] at this; exact this.symm⟩
                case measure => simp [intOf]; omega
              · have k2 : (kk == 2) = false := by rw [beq_eq_false_iff_ne]; exact h2
                have H12 : Hid (¬ kk = 1 ∧ ¬ kk = 2) := ⟨h1, h2⟩
                clear hwy h1 h2
                go_wp2_with fail
                go_roundw
                case rel => exact ⟨m + 1, n1, n2, by omega, by go_num, by go_num, by go_num, by first | rfl | trivial, by omega, by have := HT.out.1; rw [if_neg H12.out.1] at this; exact this.symm, by have := HT.out.2; rw [if_neg H12.out.2] at this; exact this.symm⟩
                case measure => simp [intOf]; omega
          · have hdm : decide ((m : Int) < (ts.length : Int)) = false := by rw [decide_eq_false_iff_not]; omega
            have hmt : ts.take m = ts := List.take_of_length_le (by omega)
            obtain ⟨e1, e2⟩ := HN.out
            rw [hmt] at e1 e2
            have hq := qa_arms HQ.out
            rw [← e1, ← e2] at hq
            rw [← e2] at hfl
            have HK6 : Hid (KeepS w P (j + 1) (f + (n2 : Int)) wr) := by rw [e2]; exact HK5.out
            have hn12 : n1 ≤ 1 ∧ n2 ≤ 1 := by
              have := HQ.out.2
              rw [← e1, ← e2] at this
              omega
            have d1 : decide ((1 : Int) < (n1 : Int)) = false := by rw [decide_eq_false_iff_not]; omega
            have d2 : decide ((1 : Int) < (n2 : Int)) = false := by rw [decide_eq_false_iff_not]; omega
            have hfw : IntKind.i64.wrap (f + (n2 : Int)) = f + (n2 : Int) := IntWalk.i64_in _ (by omega)
            clear HN hmt e1 e2 HQ HW HC HK5
            go_wp2_with fail
            refine hfl.mono ?_
            rintro e w6 ⟨rfl, rfl⟩
            clear hfl
            go_upto_region 30 with fail
            clear d1 d2 hfw hn12 hnm hm
            generalize (n1 : Int) = i1 at *
            generalize (n2 : Int) = i2 at *
            unfold armsL at hq
            simp only [List.mem_cons, Prod.mk.injEq, List.not_mem_nil, or_false] at hq
            rcases hq with ⟨rfl, rfl, rfl, rfl⟩ | ⟨rfl, rfl, rfl, rfl⟩ | ⟨rfl, rfl, rfl, rfl⟩ | ⟨rfl, rfl, rfl, rfl⟩ | ⟨rfl, rfl, rfl, rfl⟩ | ⟨rfl, rfl, rfl, rfl⟩ | ⟨rfl, rfl, rfl, rfl⟩ | ⟨rfl, rfl, rfl, rfl⟩ | ⟨rfl, rfl, rfl, rfl⟩ | ⟨rfl, rfl, rfl, rfl⟩ | ⟨rfl, rfl, rfl, rfl⟩ | ⟨rfl, rfl, rfl, rfl⟩ | ⟨rfl, rfl, rfl, rfl⟩ | ⟨rfl, rfl, rfl, rfl⟩ | ⟨rfl, rfl, rfl, rfl⟩ | ⟨rfl, rfl, rfl, rfl⟩ | ⟨rfl, rfl, rfl, rfl⟩ | ⟨rfl, rfl, rfl, rfl⟩ | ⟨rfl, rfl, rfl, rfl⟩ | ⟨rfl, rfl, rfl, rfl⟩ | ⟨rfl, rfl, rfl, rfl⟩ | ⟨rfl, rfl, rfl, rfl⟩ | ⟨rfl, rfl, rfl, rfl⟩ | ⟨rfl, rfl, rfl, rfl⟩
            all_goals
              as_aux_lemma =>
                go_wp2_with fail
                go_roundw
                case rel => exact ⟨j + 1, _, _, by omega, by first | rfl | go_num, by first | rfl | go_num, by go_num, HK6⟩
                case measure => simp [intOf]; omega
    · have hd : decide ((j : Int) < (len : Int)) = false := by rw [decide_eq_false_iff_not]; omega
      have HB : Hid (Below w.heap.size w wr) := HK.out.elim fun x e => e.2.2.2.2.below
      clear HK
      go_wp2
      go_ret
      exact ⟨rfl, HB.out⟩
end Go.Proofs.YtldjglmelbkngaaGreat.Tape
