/- WayLoses: the numbers as ways: what a and b send, what they make of what comes; no walk here. -/
import Derived.Test.YtmjogdhfndnbaaaWLose4
namespace Go.Proofs.Ytmjogdhfndnbaaa.Tape
open Go.ChangeShapes Go.WideShapes Go.ChangeAt Go.RowKit
set_option linter.unusedVariables false

/-- a by the cyclic method. -/
def taC (s : LS) : Cs := ⟨8, 300, 127, s.r - s.f, s.fo, false, false⟩

theorem much_ls {k : Nat} {s : LS} (hf : s.Fine true k) (t : Cs) (h1 : t.n1 = 8) (h2 : t.n2 = 300) : t.much (saW s) = s.mu := by
  obtain ⟨g1, g2, g3, g4, g5, g6, g7, g8, -, g10⟩ := hf
  have g10 := g10 rfl
  have hsz := (sz_saW s (by omega) g3).1
  rw [Bool.eq_iff_iff, LS.mu_iff]
  by_cases hk : s.S < s.P
  · have hsi : Hs.size (saW s) = 3 := by
      unfold Hs.size saW
      simp only [mgr_cons hk]
      rfl
    unfold Cs.much Cs.fits
    rw [h1, h2, hsi, hsz]
    simp only [saW, mgr_len]
    simp only [Bool.and_eq_true, Bool.not_eq_true', Bool.or_eq_false_iff, Bool.and_eq_false_iff, decide_eq_true_iff, decide_eq_false_iff_not]
    omega
  · unfold Cs.much
    simp only [saW, mgr_len]
    rw [decide_eq_false (by omega : ¬ 0 < s.P - s.S)]
    simp
    omega

theorem again_ls {k : Nat} {s : LS} (hf : s.Fine true k) (t : Cs) (ht : t = { taC s with force := s.fo || s.mu }) : t.again (saW s) = (taC s.ag, (match s.oa with | some i => (i : Int) | none => ((s.S : Int) + 127) % 128), s.oa.map mg) ∧ saW s.ag = saW s := by
  have hmu := much_ls hf t (by rw [ht]; rfl) (by rw [ht]; rfl)
  obtain ⟨g1, g2, g3, g4, g5, g6, g7, g8, -, g10⟩ := hf
  have hl : (saW s).sent.length = s.S - s.f := mgr_len _ _
  have hpl : t.pl = s.r - s.f := by rw [ht]; rfl
  have hget : ∀ i, i < s.S - s.f → (saW s).sent[i]? = some (mg (s.f + i)) := fun i hi => by
    rw [List.getElem?_eq_getElem (by rw [hl]; exact hi)]
    exact congrArg some (mgr_get s.f s.S i (by rw [mgr_len]; exact hi))
  refine ⟨?_, ?_⟩
  · unfold Cs.again LS.ag LS.oa
    rw [hl, hpl, hmu]
    by_cases hp : s.r < s.S
    · rw [if_pos (by omega), if_pos hp, if_pos hp, hget _ (by omega)]
      refine Prod.ext ?_ (Prod.ext ?_ ?_)
      · rw [ht]
        simp only [taC, Cs.mk.injEq, and_true, true_and]
        omega
      · simp only [saW]
        omega
      · simp only [Option.map_some]
        rw [show s.f + (s.r - s.f) = s.r by omega]
    · rw [if_neg (by omega), if_neg hp, if_neg hp]
      by_cases hf : s.f < s.S
      · rw [if_pos (by omega), if_pos hf, if_pos hf, hget _ (by omega)]
        refine Prod.ext ?_ (Prod.ext ?_ rfl)
        · rw [ht]
          simp only [taC, Cs.mk.injEq, and_true, true_and]
          omega
        · simp only [saW]
          omega
      · rw [if_neg (by omega), if_neg hf, if_neg hf]
        refine Prod.ext ?_ (Prod.ext ?_ rfl)
        · rw [ht]
          simp only [taC, Cs.mk.injEq, and_true, true_and]
          omega
        · simp only [Hs.last, hl]
          simp only [saW]
          omega
  · unfold LS.ag saW
    split <;> rfl

theorem next_cyc {k : Nat} {s : LS} (hf : s.Fine true k) : (taW true s).nx (saW s) = ((taW true (s.snt true), saW (s.snt true)), s.num true, (s.out true).map mg) := by
  have hmu := much_ls hf (taC s) rfl rfl
  have hl : (saW s).sent.length = s.S - s.f := mgr_len _ _
  have h10 := hf.cyc rfl
  show (((Sum.inr (Cs.nx (taC s) (saW s)).1.1, (Cs.nx (taC s) (saW s)).1.2), (Cs.nx (taC s) (saW s)).2) : (Wt × Hs) × Int × Option (List Int)) = ((Sum.inr (taC (s.snt true)), saW (s.snt true)), s.num true, (s.out true).map mg)
  have key : (taC s).nx (saW s) = ((taC (s.snt true), saW (s.snt true)), s.num true, (s.out true).map mg) := by
    unfold Cs.nx LS.num LS.snt LS.out
    rw [hmu, hl, if_pos rfl, if_pos rfl]
    by_cases hc : (s.fo || s.mu) = true
    · have hc' : (taC s).force = true ∨ s.mu = true := by
        show s.fo = true ∨ s.mu = true
        simpa using hc
      obtain ⟨a1, a2⟩ := again_ls hf ({ taC s with force := true } : Cs) (by rw [hc])
      rw [if_pos hc', if_pos hc, if_pos hc, a1, a2]
      rfl
    · have hc' : ¬ ((taC s).force = true ∨ s.mu = true) := by
        show ¬ (s.fo = true ∨ s.mu = true)
        simpa using hc
      have hff : s.fo = false ∧ s.mu = false := by simpa using hc
      obtain ⟨a1, a2⟩ := again_ls hf (taC s) (by rw [hff.1, hff.2]; simp [taC, hff.1])
      rw [if_neg hc', if_neg hc, if_neg hc, if_neg (by omega)]
      by_cases hk : s.S < s.P
      · rw [if_pos hk, if_pos hk]
        have hn : (saW s).next = mg s.S :: mgr (s.S + 1) s.P := mgr_cons hk
        rw [hn]
        have hfS : s.f ≤ s.S := Nat.le_trans hf.fg hf.gS
        refine Prod.ext (Prod.ext ?_ ?_) (Prod.ext ?_ rfl)
        · rfl
        · simp only [saW]
          rw [mgr_snoc hfS]
        · simp only [saW]
          have := hf.SP
          have := hf.Pk
          have := hf.k40
          omega
      · rw [if_neg hk, if_neg hk]
        have hn : (saW s).next = [] := mgr_nil (by omega)
        rw [hn, a1, a2]
        rfl
  rw [key]

/-- What a sends. -/
theorem next_ls {c : Bool} {k : Nat} {s : LS} (hf : s.Fine c k) : (taW c s).nx (saW s) = ((taW c (s.snt c), saW (s.snt c)), s.num c, (s.out c).map mg) := by
  cases c
  · exact next_bas hf
  · exact next_cyc hf

/-- .. and b. -/
theorem nextB_ls (c : Bool) (s : LS) : (tbW c s).nx sbW = ((tbW c s, sbW), 127, none) := by
  cases c <;> rfl

/-- b is told what a has taken: nothing. -/
theorem ansB_ls (c : Bool) (s : LS) : (tbW c s).an sbW 127 true = ((tbW c s, sbW), 0, 0) := by
  cases c <;> rfl

/-- a gets b's unit: it brings no message. -/
theorem takeA_ls (c : Bool) (s : LS) : (taW c s).tk 127 0 true = (taW c s, false, 0) := by
  cases c <;> rfl
theorem tbW_fib (c : Bool) (s : LS) : (tbW c s).fib = true := by cases c <;> rfl
theorem taW_bib (c : Bool) (s : LS) : (taW c s).bib = true ∧ (taW c s).last = 127 := by cases c <;> exact ⟨rfl, rfl⟩
theorem tbW_last (c : Bool) (s : LS) : (tbW c s).last = ((s.g : Int) + 127) % 128 := by cases c <;> rfl
end Go.Proofs.Ytmjogdhfndnbaaa.Tape
