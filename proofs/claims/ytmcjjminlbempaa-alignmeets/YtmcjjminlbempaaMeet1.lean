/- AlignMeets, round by round, in closed form; no walk. -/
import Derived.Test.YtmcjjminlbempaaAlign7
namespace Go.Proofs.Ytmcjjminlbempaa.Tape
open Go.ChangeShapes Go.WideShapes Go.ChangeAt Go.RowKit
set_option linter.unusedVariables false

/-- The law's timers. -/
def mT (k : Nat) : Int := [30, 999, 900, 900, 50, 5, 9, 9].getD k 1
theorem mT_ok (k : Nat) : 1 ≤ mT k ∧ mT k ≤ 4294967296 := by
  have : k = 0 ∨ k = 1 ∨ k = 2 ∨ k = 3 ∨ k = 4 ∨ k = 5 ∨ k = 6 ∨ k = 7 ∨ 8 ≤ k := by omega
  rcases this with rfl | rfl | rfl | rfl | rfl | rfl | rfl | rfl | h
  · decide
  · decide
  · decide
  · decide
  · decide
  · decide
  · decide
  · decide
  · have : mT k = 1 := by unfold mT; rw [List.getD_eq_getElem?_getD, List.getElem?_eq_none (by simpa using h)]; rfl
    rw [this]; decide

/-- A side that is Apart, Near, Tried, Idle. -/
def apA (own : Bool) (x : Int) : Al := ⟨1, own, false, false, 0, 0, mT, [0, 0, x, 0, 0, 0, 0, 0]⟩
def neA (own : Bool) (x : Int) : Al := ⟨2, own, false, false, 0, 0, mT, [0, 0, 0, x, 0, 0, 0, 0]⟩
def trA (own their : Bool) (x : Int) : Al := ⟨3, own, their, own || their, 0, 0, mT, if (own || their) = true then [x, 0, 0, 0, 0, 0, 0, 0] else [0, 0, 0, 0, x, 0, 0, 0]⟩
def idA (own hur : Bool) : Al := ⟨0, own, false, hur, 0, 0, mT, [0, 0, 0, 0, 0, 0, 0, 0]⟩
def sg (own : Bool) : Int := if own = true then 2 else 1

theorem id_begin (own : Bool) : (idA own false).begin_ = apA own 900 := rfl
theorem ap_tick (own : Bool) (x : Int) (h : 2 ≤ x) : outs 0 (apA own x).xs = [] ∧ (apA own x).tick = apA own (x - 1) := by
  constructor
  · simp [apA, outs, show ¬ x = 1 by omega]
  · simp [apA, Al.tick, tk, show ¬ x = 0 by omega]
theorem ne_tick (own : Bool) (x : Int) (h : 2 ≤ x) : outs 0 (neA own x).xs = [] ∧ (neA own x).tick = neA own (x - 1) := by
  constructor
  · simp [neA, outs, show ¬ x = 1 by omega]
  · simp [neA, Al.tick, tk, show ¬ x = 0 by omega]
theorem tr_tick (own their : Bool) (x : Int) (h : 2 ≤ x) : outs 0 (trA own their x).xs = [] ∧ (trA own their x).tick = trA own their (x - 1) := by
  constructor
  · unfold trA; cases own || their <;> simp [outs, show ¬ x = 1 by omega]
  · unfold trA Al.tick; cases own || their <;> simp [tk, show ¬ x = 0 by omega]
theorem tr_last (own their : Bool) : ∃ k : Nat, outs 0 (trA own their 1).xs = [k] ∧ (trA own their 1).tick.proved k = true ∧ (trA own their 1).tick.outWhy k = 0 ∧ (trA own their 1).tick.out k = idA own (own || their) := by
  cases own <;> cases their
  · exact ⟨4, rfl, by decide, by decide, rfl⟩
  · exact ⟨0, rfl, by decide, by decide, rfl⟩
  · exact ⟨0, rfl, by decide, by decide, rfl⟩
  · exact ⟨0, rfl, by decide, by decide, rfl⟩
theorem id_tick (own hur : Bool) : outs 0 (idA own hur).xs = [] ∧ (idA own hur).tick = idA own hur := ⟨rfl, rfl⟩

theorem heard3 (A : Al) : A.heard 3 = A := if_pos (.inr rfl)
theorem id_heard (own hur : Bool) (s : Int) : (idA own hur).heard s = idA own hur := if_pos (.inl rfl)
theorem ap_heard (own : Bool) (x : Int) : (apA own x).heard 0 = neA own 900 := rfl
theorem ne_heard (own : Bool) (x : Int) : (neA own x).heard 0 = neA own x := rfl
def TT (own their : Bool) : Nat := if (own || their) = true then 30 else 50
theorem ne_proves (own their : Bool) (x : Int) : (neA own x).heard (sg their) = trA own their (TT own their) := by cases own <;> cases their <;> rfl
theorem tr_heard (own their : Bool) (x : Int) : (trA own their x).heard (sg their) = trA own their x := by cases own <;> cases their <;> rfl

/-- A side in round t: it begins in round e, is Near behind round n, Tried behind round r, for T rounds. -/
def md (own their : Bool) (e n r T t : Nat) : Al :=
  if t < e then idA own false else if t ≤ n then apA own ((900 - (t - e) : Nat) : Int) else if t ≤ r then neA own ((900 - (t - (n + 1)) : Nat) : Int)
  else if t ≤ r + T then trA own their ((T - (t - (r + 1)) : Nat) : Int) else idA own (own || their)
/-- .. behind round t. -/
def nx (own their : Bool) (e n r T t : Nat) : Al := if t + 1 = e then idA own false else md own their e n r T (t + 1)

theorem md0 {own their : Bool} {e n r T t : Nat} (h : t < e) : md own their e n r T t = idA own false := if_pos h
theorem md1 {own their : Bool} {e n r T t : Nat} (h : e ≤ t) (h1 : t ≤ n) : md own their e n r T t = apA own ((900 - (t - e) : Nat) : Int) := by
  unfold md; rw [if_neg (by omega), if_pos h1]
theorem md2 {own their : Bool} {e n r T t : Nat} (h : e ≤ n) (h1 : n < t) (h2 : t ≤ r) : md own their e n r T t = neA own ((900 - (t - (n + 1)) : Nat) : Int) := by
  unfold md; rw [if_neg (by omega), if_neg (by omega), if_pos h2]
theorem md3 {own their : Bool} {e n r T t : Nat} (h : e ≤ n) (h1 : n ≤ r) (h2 : r < t) (h3 : t ≤ r + T) : md own their e n r T t = trA own their ((T - (t - (r + 1)) : Nat) : Int) := by
  unfold md; rw [if_neg (by omega), if_neg (by omega), if_neg (by omega), if_pos h3]
theorem md4 {own their : Bool} {e n r T t : Nat} (h : e ≤ n) (h1 : n ≤ r) (h2 : r + T < t) : md own their e n r T t = idA own (own || their) := by
  unfold md; rw [if_neg (by omega), if_neg (by omega), if_neg (by omega), if_neg (by omega)]

/-- What a side is told, d rounds on. -/
structure Told (own their : Bool) (e n r d : Nat) (h : Nat → Int) : Prop where
  en : e ≤ n
  nr : n < r
  dn : d ≤ n
  rb : r ≤ 400
  h1 : ∀ t, d ≤ t → e ≤ t → t < n → h t = 3
  h2 : h n = 0
  h3 : ∀ t, n < t → t < r → h t = 0
  h4 : h r = sg their
  h5 : ∀ t, r < t → h t = sg their ∨ h t = 3

theorem turn {own their : Bool} {e n r d : Nat} {h : Nat → Int} (S : Told own their e n r d h) (t : Nat) (T : Nat) (hT : T = TT own their) :
    (outs 0 (md own their e n r T t).xs = [] ∧ t ≠ r + T ∧ nx own their e n r T t = if d ≤ t then (md own their e n r T t).tick.heard (h t) else (md own their e n r T t).tick) ∨
    ∃ k : Nat, outs 0 (md own their e n r T t).xs = [k] ∧ (md own their e n r T t).tick.proved k = true ∧ (md own their e n r T t).tick.outWhy k = 0 ∧ t = r + T ∧ nx own their e n r T t = if d ≤ t then ((md own their e n r T t).tick.out k).heard (h t) else (md own their e n r T t).tick.out k := by
  obtain ⟨en, nr, dn, rb, h1, h2, h3, h4, h5⟩ := S
  have hTb : T = 30 ∨ T = 50 := by rw [hT]; unfold TT; split <;> simp
  by_cases c0 : t < e
  · refine .inl ⟨by rw [md0 c0]; rfl, by omega, ?_⟩
    have hx : nx own their e n r T t = idA own false := by
      unfold nx
      split
      · rfl
      · exact md0 (by omega)
    rw [hx, md0 c0, (id_tick own false).2, id_heard, ite_self]
  by_cases c1 : t ≤ n
  · have hm := md1 (own := own) (their := their) (r := r) (T := T) (show e ≤ t by omega) c1
    have htk := ap_tick own ((900 - (t - e) : Nat) : Int) (by omega)
    refine .inl ⟨by rw [hm]; exact htk.1, by omega, ?_⟩
    rw [hm, htk.2]
    unfold nx
    rw [if_neg (by omega)]
    by_cases c2 : t = n
    · subst c2
      rw [if_pos dn, h2, ap_heard, md2 en (by omega) (by omega)]
      congr 1
      omega
    · rw [md1 (by omega) (by omega)]
      have hx : (((900 - (t - e) : Nat) : Int) - 1) = ((900 - (t + 1 - e) : Nat) : Int) := by omega
      rw [hx]
      split
      · rw [h1 t (by assumption) (by omega) (by omega), heard3]
      · rfl
  by_cases c2 : t ≤ r
  · have hm := md2 (own := own) (their := their) (T := T) en (show n < t by omega) c2
    have htk := ne_tick own ((900 - (t - (n + 1)) : Nat) : Int) (by omega)
    refine .inl ⟨by rw [hm]; exact htk.1, by omega, ?_⟩
    rw [hm, htk.2]
    unfold nx
    rw [if_neg (by omega), if_pos (by omega)]
    by_cases c3 : t = r
    · subst c3
      rw [h4, ne_proves, md3 en (by omega) (by omega) (by omega), hT]
      congr 1
      omega
    · rw [md2 en (by omega) (by omega), h3 t (by omega) (by omega), ne_heard]
      congr 1
      omega
  by_cases c3 : t ≤ r + T
  · have hm := md3 (own := own) (their := their) (T := T) en (show n ≤ r by omega) (show r < t by omega) c3
    by_cases c4 : t = r + T
    · have hx : ((T - (t - (r + 1)) : Nat) : Int) = 1 := by omega
      rw [hx] at hm
      obtain ⟨k, k1, k2, k3, k4⟩ := tr_last own their
      refine .inr ⟨k, by rw [hm]; exact k1, by rw [hm]; exact k2, by rw [hm]; exact k3, c4, ?_⟩
      rw [hm, k4, id_heard, ite_self]
      unfold nx
      rw [if_neg (by omega), md4 en (by omega) (by omega)]
    · have htk := tr_tick own their ((T - (t - (r + 1)) : Nat) : Int) (by omega)
      refine .inl ⟨by rw [hm]; exact htk.1, c4, ?_⟩
      rw [hm, htk.2]
      unfold nx
      rw [if_neg (by omega), if_pos (by omega), md3 en (by omega) (by omega) (by omega)]
      have hx : (((T - (t - (r + 1)) : Nat) : Int) - 1) = ((T - (t + 1 - (r + 1)) : Nat) : Int) := by omega
      rw [hx]
      rcases h5 t (by omega) with e5 | e5
      · rw [e5, tr_heard]
      · rw [e5, heard3]
  · have hm := md4 (own := own) (their := their) en (show n ≤ r by omega) (show r + T < t by omega)
    refine .inl ⟨by rw [hm]; rfl, by omega, ?_⟩
    rw [hm, (id_tick own _).2, id_heard, ite_self]
    unfold nx
    rw [if_neg (by omega), md4 en (by omega) (by omega)]

/-- What it sends. -/
theorem md_sends1 {own their : Bool} {e n r T t : Nat} (h : e ≤ t) (h1 : t ≤ n) : (md own their e n r T t).sends = 0 := by rw [md1 h h1]; rfl
theorem md_sends0 {own their : Bool} {e n r T t : Nat} (h : t < e) : (md own their e n r T t).sends = 3 := by rw [md0 h]; rfl
theorem md_sends2 {own their : Bool} {e n r T t : Nat} (h : e ≤ n) (h1 : n < t) (h2 : t ≤ r + T) (hr : n ≤ r) : (md own their e n r T t).sends = sg own := by
  by_cases c : t ≤ r
  · rw [md2 h h1 c]; rfl
  · rw [md3 h hr (by omega) h2]; rfl
theorem md_sends3 {own their : Bool} {e n r T t : Nat} (h : e ≤ n) (h1 : n < t) (hr : n ≤ r) : (md own their e n r T t).sends = sg own ∨ (md own their e n r T t).sends = 3 := by
  by_cases c : t ≤ r + T
  · exact .inl (md_sends2 h h1 c hr)
  · right; rw [md4 h hr (by omega)]; rfl

theorem md_st {own their : Bool} {e n r T t : Nat} : 0 ≤ (md own their e n r T t).st ∧ (md own their e n r T t).st ≤ 3 := by
  unfold md
  split
  · exact ⟨by show (0 : Int) ≤ 0; decide, by show (0 : Int) ≤ 3; decide⟩
  split
  · exact ⟨by show (0 : Int) ≤ 1; decide, by show (1 : Int) ≤ 3; decide⟩
  split
  · exact ⟨by show (0 : Int) ≤ 2; decide, by show (2 : Int) ≤ 3; decide⟩
  split
  · exact ⟨by show (0 : Int) ≤ 3; decide, by show (3 : Int) ≤ 3; decide⟩
  · exact ⟨by show (0 : Int) ≤ 0; decide, by show (0 : Int) ≤ 3; decide⟩

/-- The two sides: i in round t. -/
def sA (o p : Bool) (d g i t : Nat) : Al := if i = 0 then md o p 0 (g + d) (max d g + d + 1) (TT o p) t else md p o g (max d g) (g + 2 * d + 1) (TT o p) t
/-- .. behind round t. -/
def sN (o p : Bool) (d g i t : Nat) : Al := if i = 0 then nx o p 0 (g + d) (max d g + d + 1) (TT o p) t else nx p o g (max d g) (g + 2 * d + 1) (TT o p) t
/-- In which round it is proved. -/
def sT (o p : Bool) (d g i : Nat) : Nat := if i = 0 then max d g + d + 1 + TT o p else g + 2 * d + 1 + TT o p

theorem TT_comm (o p : Bool) : TT o p = TT p o := by cases o <;> cases p <;> rfl

theorem sturn (o p : Bool) (d g i t : Nat) (hd : 1 ≤ d ∧ d ≤ 40) (hg : g < 60) (hi : i < 2) :
    (outs 0 (sA o p d g i t).xs = [] ∧ t ≠ sT o p d g i ∧ sN o p d g i t = if d ≤ t then (sA o p d g i t).tick.heard (sA o p d g (1 - i) (t - d)).sends else (sA o p d g i t).tick) ∨
    ∃ k : Nat, outs 0 (sA o p d g i t).xs = [k] ∧ (sA o p d g i t).tick.proved k = true ∧ (sA o p d g i t).tick.outWhy k = 0 ∧ t = sT o p d g i ∧ sN o p d g i t = if d ≤ t then ((sA o p d g i t).tick.out k).heard (sA o p d g (1 - i) (t - d)).sends else (sA o p d g i t).tick.out k := by
  obtain ⟨d1, d2⟩ := hd
  have hTb : TT o p = 30 ∨ TT o p = 50 := by unfold TT; split <;> simp
  have hi2 : i = 0 ∨ i = 1 := by omega
  rcases hi2 with rfl | rfl
  · have S : Told o p 0 (g + d) (max d g + d + 1) d (fun t => (md p o g (max d g) (g + 2 * d + 1) (TT o p) (t - d)).sends) := by
      refine ⟨by omega, by omega, by omega, by omega, fun t a1 a2 a3 => md_sends0 (by omega), ?_, fun t a1 a2 => md_sends1 (by omega) (by omega), ?_, fun t a1 => md_sends3 (by omega) (by omega) (by omega)⟩
      · show (md p o g (max d g) (g + 2 * d + 1) (TT o p) (g + d - d)).sends = 0
        exact md_sends1 (by omega) (by omega)
      · show (md p o g (max d g) (g + 2 * d + 1) (TT o p) (max d g + d + 1 - d)).sends = sg p
        exact md_sends2 (by omega) (by omega) (by omega) (by omega)
    exact turn S t (TT o p) rfl
  · have S : Told p o g (max d g) (g + 2 * d + 1) d (fun t => (md o p 0 (g + d) (max d g + d + 1) (TT o p) (t - d)).sends) := by
      refine ⟨by omega, by omega, by omega, by omega, fun t a1 a2 a3 => absurd a3 (by omega), ?_, fun t a1 a2 => md_sends1 (by omega) (by omega), ?_, fun t a1 => md_sends3 (by omega) (by omega) (by omega)⟩
      · show (md o p 0 (g + d) (max d g + d + 1) (TT o p) (max d g - d)).sends = 0
        exact md_sends1 (by omega) (by omega)
      · show (md o p 0 (g + d) (max d g + d + 1) (TT o p) (g + 2 * d + 1 - d)).sends = sg o
        exact md_sends2 (by omega) (by omega) (by omega) (by omega)
    exact turn S t (TT o p) (TT_comm o p)
end Go.Proofs.Ytmcjjminlbempaa.Tape
