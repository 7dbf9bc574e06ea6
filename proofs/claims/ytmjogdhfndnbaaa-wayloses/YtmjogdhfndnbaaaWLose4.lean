/- WayLoses: the numbers as ways: what each call makes of them; no walk here. -/
import Derived.Test.YtmjogdhfndnbaaaWLose3
import Derived.Test.YtmjogdhfndnbaaaWay2
import Derived.Test.YtmjogdhfndnbaaaMgs
namespace Go.Proofs.Ytmjogdhfndnbaaa.Tape
open Go.ChangeShapes Go.WideShapes Go.ChangeAt Go.RowKit
set_option linter.unusedVariables false

/-- What a has, and b. -/
def taW (c : Bool) (s : LS) : Wt := if c then .inr ⟨8, 300, 127, s.r - s.f, s.fo, false, false⟩ else .inl ⟨decide (s.A % 2 = 0), true, 127, false, if s.r < s.S then ((s.r - s.f : Nat) : Int) else -1, false, false, false, false⟩
def saW (s : LS) : Hs := ⟨16, 600, s.f, mgr s.f s.S, mgr s.S s.P⟩
def tbW (c : Bool) (s : LS) : Wt := if c then .inr ⟨8, 300, ((s.g : Int) + 127) % 128, 0, false, false, false⟩ else .inl ⟨true, decide (s.B % 2 = 0), ((s.g : Int) + 127) % 128, s.ask, -1, false, false, false, false⟩
def sbW : Hs := ⟨16, 600, 0, [], []⟩

theorem taW_cyc (c : Bool) (s : LS) : (taW c s).cyclic = c := by cases c <;> rfl
theorem tbW_cyc (c : Bool) (s : LS) : (tbW c s).cyclic = c := by cases c <;> rfl

/-- The number of the unit that a sends. -/
def LS.num (c : Bool) (s : LS) : Int := match s.out c with
  | some i => i
  | none => ((s.S : Int) + 127) % 128

theorem sz_saW (s : LS) (h : s.f ≤ s.S) (h2 : s.S ≤ s.P) : sz (saW s).sent = 3 * (s.S - s.f) ∧ sz (saW s).next = 3 * (s.P - s.S) := by
  have h1 := sz_mgr s.f (s.S - s.f)
  have h3 := sz_mgr s.S (s.P - s.S)
  rw [show s.f + (s.S - s.f) = s.S by omega] at h1
  rw [show s.S + (s.P - s.S) = s.P by omega] at h3
  exact ⟨h1, h3⟩

/-- A put. -/
theorem put_ls {c : Bool} {k : Nat} {s : LS} (hf : s.Fine c k) (hk : s.P < k) : (saW s).put (mg s.P) = saW (s.put k) ∧ (saW s).putE (mg s.P) = (if s.P < s.f + 16 then 0 else 3) ∧ taW c (s.put k) = taW c s := by
  obtain ⟨h1, h2, h3, h4, h5, h6, h7, h8, -, -⟩ := hf
  obtain ⟨z1, z2⟩ := sz_saW s (by omega) h3
  have hl : (mg s.P).length = 3 := rfl
  have hE : (saW s).putE (mg s.P) = (if s.P < s.f + 16 then 0 else 3) := by
    unfold Hs.putE
    rw [hl, z1, z2, if_neg (by omega), if_neg (by omega)]
    simp only [saW, mgr_len]
    split <;> split <;> omega
  refine ⟨?_, hE, ?_⟩
  · unfold Hs.put LS.put
    rw [hE]
    by_cases hr : s.P < s.f + 16
    · rw [if_pos hr, if_pos rfl, if_pos ⟨hk, hr⟩]
      simp only [saW]
      rw [mgr_snoc h3]
    · rw [if_neg hr, if_neg (by decide), if_neg (fun e => hr e.2)]
  · obtain ⟨p1, p2, p3, p4, p5, p6, p7, p8, -⟩ := LS.put_parts k s
    unfold taW
    rw [p1, p2, p3, p5, p8]

/-- What a sends: the basic method. -/
theorem next_bas {k : Nat} {s : LS} (hf : s.Fine false k) : (taW false s).nx (saW s) = ((taW false (s.snt false), saW (s.snt false)), s.num false, (s.out false).map mg) := by
  obtain ⟨h1, h2, h3, h4, h5, h6, h7, h8, h9, -⟩ := hf
  have hs2 : s.snt false = (if s.r < s.P then { s with S := max s.S (s.r + 1), r := s.r + 1 } else s) := by unfold LS.snt; simp
  have ho : s.out false = (if s.r < s.P then some s.r else none) := by unfold LS.out; simp
  have hl : (saW s).sent.length = s.S - s.f := mgr_len _ _
  unfold LS.num
  rw [hs2, ho]
  show (((Sum.inl (Bs.nx _ (saW s)).1.1, (Bs.nx _ (saW s)).1.2), (Bs.nx _ (saW s)).2) : (Wt × Hs) × Int × Option (List Int)) = _
  unfold Bs.nx
  rw [hl]
  by_cases hr : s.r < s.S
  · have e1 : (if s.r < s.S then ((s.r - s.f : Nat) : Int) else -1) = ((s.r - s.f : Nat) : Int) := if_pos hr
    simp only [e1]
    rw [if_pos (by omega), if_pos (by omega)]
    have hget : (saW s).sent[((s.r - s.f : Nat) : Int).toNat]? = some (mg s.r) := by
      rw [Int.toNat_natCast, List.getElem?_eq_getElem (by rw [hl]; omega)]
      have := mgr_get s.f s.S (s.r - s.f) (by rw [mgr_len]; omega)
      rw [show s.f + (s.r - s.f) = s.r by omega] at this
      exact congrArg some this
    rw [hget]
    dsimp only
    rw [if_pos (show s.r < s.P by omega)]
    refine Prod.ext (Prod.ext ?_ ?_) (Prod.ext ?_ rfl)
    · simp only [taW, Bool.false_eq_true, if_false, Sum.inl.injEq, Bs.to, Bs.mk.injEq, and_true, true_and]
      split <;> split <;> omega
    · simp only [saW]
      rw [show max s.S (s.r + 1) = s.S by omega]
    · simp only [saW]
      omega
  · have e1 : (if s.r < s.S then ((s.r - s.f : Nat) : Int) else -1) = -1 := if_neg hr
    have hrS : s.r = s.S := by omega
    simp only [e1]
    rw [if_neg (by omega), if_neg (by omega)]
    by_cases hp : s.S < s.P
    · rw [if_pos (by omega)]
      have hn : (saW s).next = mg s.S :: mgr (s.S + 1) s.P := mgr_cons hp
      rw [hn, if_pos (show s.r < s.P by omega)]
      simp only [Option.map_some]
      refine Prod.ext (Prod.ext ?_ ?_) (Prod.ext ?_ ?_)
      · simp only [taW, Bool.false_eq_true, if_false, Sum.inl.injEq, Bs.mk.injEq, and_true, true_and]
        rw [if_neg (by omega)]
      · simp only [saW]
        rw [mgr_snoc (by omega), show max s.S (s.r + 1) = s.S + 1 by omega]
      · simp only [saW]
        omega
      · simp only
        rw [hrS]
    · rw [if_neg (by omega)]
      have hn : (saW s).next = [] := mgr_nil (by omega)
      rw [hn, if_neg (show ¬ s.r < s.P by omega)]
      refine Prod.ext (Prod.ext ?_ rfl) (Prod.ext ?_ rfl)
      · simp only [taW, Bool.false_eq_true, if_false, Sum.inl.injEq, Bs.mk.injEq, and_true, true_and]
        rw [if_neg hr]
      · simp only [Hs.last, hl]
        simp only [saW]
        omega
end Go.Proofs.Ytmjogdhfndnbaaa.Tape
