/- WayLoses: the numbers as ways: what b makes of a's unit, and a of b's; no walk here. -/
import Derived.Test.YtmjogdhfndnbaaaWLose5
namespace Go.Proofs.Ytmjogdhfndnbaaa.Tape
open Go.ChangeShapes Go.WideShapes Go.ChangeAt Go.RowKit
set_option linter.unusedVariables false

/-- What a sending leaves as it was. -/
theorem LS.snt_parts (c : Bool) (s : LS) : (s.snt c).f = s.f ∧ (s.snt c).g = s.g ∧ (s.snt c).P = s.P ∧ (s.snt c).A = s.A ∧ (s.snt c).B = s.B ∧ (s.snt c).ask = s.ask := by
  have ha : s.ag.f = s.f ∧ s.ag.g = s.g ∧ s.ag.P = s.P ∧ s.ag.A = s.A ∧ s.ag.B = s.B ∧ s.ag.ask = s.ask := by
    unfold LS.ag
    split <;> exact ⟨rfl, rfl, rfl, rfl, rfl, rfl⟩
  unfold LS.snt
  repeat' split
  all_goals first
    | exact ha
    | exact ⟨rfl, rfl, rfl, rfl, rfl, rfl⟩

/-- What is sent, and the bounds behind it. -/
theorem LS.snt_fine {c : Bool} {k : Nat} {s : LS} (h : s.Fine c k) : (s.snt c).f ≤ (s.snt c).r ∧ (s.snt c).r ≤ (s.snt c).S ∧ (s.snt c).S ≤ s.P ∧ s.S ≤ (s.snt c).S ∧ (∀ i, s.out c = some i → i < 40 ∧ (c = false → s.g ≤ i)) ∧ (s.out c = none → (s.snt c).S = s.S) := by
  cases c
  · obtain ⟨h1, h2, h3, h4, h5, h6, h7, h8, h9, -⟩ := h
    obtain ⟨b1, b2, b3, b4⟩ := h9 rfl
    have hs2 : s.snt false = (if s.r < s.P then { s with S := max s.S (s.r + 1), r := s.r + 1 } else s) := by unfold LS.snt; simp
    have ho : s.out false = (if s.r < s.P then some s.r else none) := by unfold LS.out; simp
    rw [hs2, ho]
    by_cases hr : s.r < s.P
    · rw [if_pos hr, if_pos hr]
      refine ⟨?_, ?_, ?_, ?_, fun i hi => ?_, fun e => by cases e⟩
      · simp only; omega
      · simp only; omega
      · simp only; omega
      · simp only; omega
      · simp only [Option.some.injEq] at hi
        exact ⟨by omega, fun _ => by omega⟩
    · rw [if_neg hr, if_neg hr]
      exact ⟨h6, h7, h3, Nat.le_refl _, fun i hi => (by cases hi), fun _ => rfl⟩
  · have hw := LS.sent_ways h
    obtain ⟨h1, h2, h3, h4, h5, h6, h7, h8, -, h10⟩ := h
    rcases hw with ⟨w1, w2, w3, w4, w5⟩ | ⟨w1, w2, w3, w4⟩ | ⟨w1, w2, w3, w4, w5⟩ | ⟨w1, w2, w3, w4, w5⟩
    all_goals
      rw [w1, w2]
      refine ⟨?_, ?_, ?_, ?_, fun i hi => ?_, fun e => ?_⟩
      all_goals (try simp only [Option.some.injEq, reduceCtorEq] at *)
      all_goals first
        | omega
        | exact ⟨by omega, fun e => by cases e⟩
        | rfl

theorem taW_tkn (c : Bool) (s : LS) (o : Option Nat) : taW c (s.tkn c o) = taW c s ∧ saW (s.tkn c o) = saW s := by
  unfold LS.tkn
  repeat' split
  all_goals exact ⟨rfl, rfl⟩
theorem tbW_ans (c : Bool) (s : LS) (g0 B0 : Nat) : tbW c (s.ans c g0 B0) = tbW c s ∧ (s.ans c g0 B0).g = s.g ∧ (s.ans c g0 B0).P = s.P := by
  unfold LS.ans
  repeat' split
  all_goals exact ⟨rfl, rfl, rfl⟩
theorem tbW_snt (c : Bool) (s : LS) : tbW c (s.snt c) = tbW c s := by
  obtain ⟨h1, h2, h3, h4, h5, h6⟩ := LS.snt_parts c s
  unfold tbW
  rw [h2, h5, h6]
theorem tkn_g (c : Bool) (s : LS) (o : Option Nat) : (s.tkn c o).g = (if s.tks c o then s.g + 1 else s.g) ∧ (s.tkn c o).P = s.P ∧ (s.tkn c o).f = s.f ∧ (s.tkn c o).S = s.S ∧ (s.tkn c o).r = s.r ∧ (s.tkn c o).A = s.A := by
  unfold LS.tkn LS.tks
  cases c
  · simp only [Bool.false_eq_true, if_false, decide_eq_true_iff]
    by_cases h1 : s.A % 2 = s.B % 2
    · by_cases h2 : o = some s.g
      · simp only [h1, h2, if_true, and_self]
      · simp only [h1, h2, if_true, if_false, and_false]
        split <;> exact ⟨rfl, rfl, rfl, rfl, rfl, rfl⟩
    · simp only [h1, if_false, false_and]
      exact ⟨trivial, trivial, trivial, trivial, trivial, trivial⟩
  · simp only [if_true, decide_eq_true_iff]
    split <;> exact ⟨rfl, rfl, rfl, rfl, rfl, rfl⟩
theorem tks_some {c : Bool} {s : LS} {o : Option Nat} (h : s.tks c o = true) : o = some s.g := by
  unfold LS.tks at h
  split at h
  · exact of_decide_eq_true h
  · exact (of_decide_eq_true h).2

/-- b gets a's unit. -/
theorem takeB_ls {c : Bool} {k : Nat} {s : LS} (hf : s.Fine c k) : (tbW c s).tk (s.num c) (kd ((s.out c).map mg)) (taW c s).fib = (tbW c ((s.snt c).tkn c (s.out c)), (s.snt c).tks c (s.out c), 0) := by
  obtain ⟨p1, p2, p3, p4, p5, p6⟩ := LS.snt_parts c s
  obtain ⟨q1, q2, q3, q4, q5, q6⟩ := LS.snt_fine hf
  have hnum : (∀ i, s.out c = some i → s.num c = i) ∧ (s.out c = none → s.num c = ((s.S : Int) + 127) % 128) := by
    unfold LS.num
    exact ⟨fun i hi => by rw [hi], fun hi => by rw [hi]⟩
  obtain ⟨n1, n2⟩ := hnum
  generalize s.num c = n at *
  generalize s.out c = o at *
  obtain ⟨h1, h2, h3, h4, h5, h6, h7, h8, h9, h10⟩ := hf
  cases c
  · obtain ⟨b1, b2, b3, b4⟩ := h9 rfl
    show Wt.tk (.inl ⟨true, decide (s.B % 2 = 0), ((s.g : Int) + 127) % 128, s.ask, -1, false, false, false, false⟩) n (kd (o.map mg)) (decide (s.A % 2 = 0)) = _
    unfold Wt.tk LS.tks LS.tkn
    simp only [Bool.false_eq_true, if_false, p2, p4, p5]
    by_cases hst : s.A % 2 = s.B % 2
    · have e1 : decide (s.A % 2 = 0) = decide (s.B % 2 = 0) := by rw [hst]
      rw [if_pos e1, if_pos hst]
      cases o with
      | none =>
        have hn := n2 rfl
        have hS := q6 rfl
        have hk : kd (Option.map mg none) = 0 := rfl
        have e4 : decide (s.A % 2 = s.B % 2 ∧ (none : Option Nat) = some s.g) = false := decide_eq_false (by simp)
        rw [hk, if_neg (by omega), hn, e4]
        by_cases hg : s.S = s.g
        · rw [if_pos (by rw [hg])]
          refine Prod.ext ?_ rfl
          simp only [reduceCtorEq, if_false, Option.getD_none, and_true, hS, hg, if_true]
          unfold tbW
          simp
        · rw [if_neg (by omega)]
          refine Prod.ext ?_ rfl
          simp only [reduceCtorEq, if_false, Option.getD_none, and_true, hS, hg]
          unfold tbW
          simp only [Bool.false_eq_true, if_false, Sum.inl.injEq, Bs.mk.injEq, and_true, true_and]
          rw [Bool.eq_iff_iff]
          simp
          omega
      | some i =>
        have hn := n1 i rfl
        obtain ⟨hi, hgi⟩ := q5 i rfl
        have hgi := hgi rfl
        have hk : kd (Option.map mg (some i)) = 2 := rfl
        rw [hk, hn]
        by_cases hg : i = s.g
        · rw [if_pos ⟨rfl, by omega⟩, if_pos (by rw [hg])]
          subst hg
          simp only [hst, and_self, decide_true]
          refine Prod.ext ?_ rfl
          unfold tbW
          simp only [Bool.false_eq_true, if_false, Sum.inl.injEq, Bs.mk.injEq, and_true, true_and]
          omega
        · rw [if_neg (by omega), if_neg (by omega), if_neg (by simp; exact hg), if_neg (by simp)]
          have e2 : decide (s.A % 2 = s.B % 2 ∧ some i = some s.g) = false := decide_eq_false (by simp [hg])
          rw [e2]
          refine Prod.ext ?_ rfl
          unfold tbW
          simp only [Bool.false_eq_true, if_false, Sum.inl.injEq, Bs.mk.injEq, and_true, true_and]
          rw [Bool.eq_iff_iff]
          simp
          omega
    · have e1 : ¬ decide (s.A % 2 = 0) = decide (s.B % 2 = 0) := by
        intro c
        rw [decide_eq_decide] at c
        omega
      have ha := b3 (by omega)
      have e2 : decide (s.A % 2 = s.B % 2 ∧ o = some s.g) = false := decide_eq_false (by simp [hst])
      rw [if_neg e1, if_neg hst, e2]
      refine Prod.ext ?_ ?_
      · unfold tbW
        simp [p2, p5, p6, ha]
      · simp [ha]
  · show Wt.tk (.inr ⟨8, 300, ((s.g : Int) + 127) % 128, 0, false, false, false⟩) n (kd (o.map mg)) true = _
    unfold Wt.tk LS.tks LS.tkn
    simp only [if_true, p2]
    cases o with
    | none =>
      have hk : kd (Option.map mg none) = 0 := rfl
      rw [hk, if_neg (by omega), if_neg (by simp)]
      refine Prod.ext ?_ rfl
      unfold tbW
      simp [p2]
    | some i =>
      have hn := n1 i rfl
      obtain ⟨hi, -⟩ := q5 i rfl
      have hk : kd (Option.map mg (some i)) = 2 := rfl
      rw [hk, hn]
      by_cases hg : i = s.g
      · rw [if_pos ⟨rfl, by omega⟩, if_pos (by rw [hg])]
        subst hg
        simp only [decide_true]
        refine Prod.ext ?_ rfl
        unfold tbW
        simp only [if_true, Sum.inr.injEq, Cs.mk.injEq, and_true, true_and]
        omega
      · rw [if_neg (by omega), if_neg (by simp; exact hg)]
        have e2 : decide (some i = some s.g) = false := decide_eq_false (by simp [hg])
        rw [e2]
        refine Prod.ext ?_ rfl
        unfold tbW
        simp [p2]

/-- a gets b's unit. -/
theorem ansA_ls {c : Bool} {s : LS} (g0 B0 : Nat) (h1 : s.f ≤ g0) (h2 : g0 ≤ s.S) (h3 : s.f ≤ s.r) (h4 : s.r ≤ s.S) (h5 : s.S < 40) (bb : Bool) (hb : bb = if c then true else decide (B0 % 2 = 0)) :
    (taW c s).an (saW s) (((g0 : Int) + 127) % 128) bb = ((taW c (s.ans c g0 B0), saW (s.ans c g0 B0)), ((g0 - s.f : Nat) : Int), 0) := by
  have hkn : (saW s).knows (((g0 : Int) + 127) % 128) = true := by
    unfold Hs.knows
    rw [decide_eq_true_iff]
    simp only [saW, mgr_len]
    omega
  have hup : (saW s).upTo (((g0 : Int) + 127) % 128) = g0 - s.f := by
    unfold Hs.upTo
    simp only [saW]
    omega
  have hfr : (saW s).free (((g0 : Int) + 127) % 128) = saW (s.ans c g0 B0) := by
    unfold Hs.free
    rw [hup]
    have e : saW (s.ans c g0 B0) = ⟨16, 600, g0, mgr g0 s.S, mgr s.S s.P⟩ := by
      unfold LS.ans
      repeat' split
      all_goals rfl
    rw [e]
    simp only [saW, mgr_drop, Hs.mk.injEq, true_and, and_true]
    rw [show s.f + (g0 - s.f) = g0 by omega]
    exact ⟨by omega, rfl⟩
  have hlen : (saW (s.ans c g0 B0)).sent.length = s.S - g0 := by
    have e : saW (s.ans c g0 B0) = ⟨16, 600, g0, mgr g0 s.S, mgr s.S s.P⟩ := by
      unfold LS.ans
      repeat' split
      all_goals rfl
    rw [e]
    exact mgr_len _ _
  cases c
  · simp only [Bool.false_eq_true, if_false] at hb
    subst hb
    show Wt.an (.inl ⟨decide (s.A % 2 = 0), true, 127, false, if s.r < s.S then ((s.r - s.f : Nat) : Int) else -1, false, false, false, false⟩) (saW s) _ _ = _
    simp only [Wt.an, hkn, if_true, hup, hfr, hlen]
    refine Prod.ext (Prod.ext ?_ rfl) rfl
    show Sum.inl _ = taW false (s.ans false g0 B0)
    unfold Bs.ans LS.ans
    by_cases hp : B0 % 2 = s.A % 2
    · rw [if_pos (show decide (B0 % 2 = 0) = decide (s.A % 2 = 0) by rw [hp])]
      simp only [Bool.false_eq_true, if_false, if_pos hp, taW, Bs.to]
      by_cases hlt : s.r < s.S
      · rw [if_pos hlt, if_neg (by omega)]
        simp only [Sum.inl.injEq, Bs.mk.injEq, and_true, true_and]
        repeat' split
        all_goals omega
      · rw [if_neg hlt, if_pos rfl]
        simp only [Sum.inl.injEq, Bs.mk.injEq, and_true, true_and]
        rw [if_neg (by omega)]
    · rw [if_neg (show ¬ decide (B0 % 2 = 0) = decide (s.A % 2 = 0) by
        intro c
        rw [decide_eq_decide] at c
        omega)]
      simp only [Bool.false_eq_true, if_false, if_neg hp, taW, Bs.to]
      by_cases hlt : s.r < s.S
      · rw [if_pos hlt, if_neg (by omega)]
        simp only [Sum.inl.injEq, Bs.mk.injEq, and_true, true_and, decide_eq_decide]
        refine ⟨by omega, ?_⟩
        repeat' split
        all_goals omega
      · rw [if_neg hlt, if_pos rfl]
        simp only [Sum.inl.injEq, Bs.mk.injEq, and_true, true_and, decide_eq_decide]
        refine ⟨by omega, ?_⟩
        repeat' split
        all_goals omega
  · show Wt.an (.inr ⟨8, 300, 127, s.r - s.f, s.fo, false, false⟩) (saW s) _ _ = _
    simp only [Wt.an, hkn, if_true, hup, hfr]
    refine Prod.ext (Prod.ext ?_ rfl) rfl
    show Sum.inr _ = taW true (s.ans true g0 B0)
    unfold LS.ans
    simp only [if_true, taW, Sum.inr.injEq, Cs.mk.injEq, and_true, true_and]
    omega
end Go.Proofs.Ytmjogdhfndnbaaa.Tape
