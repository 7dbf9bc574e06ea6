/- WayLoses: the states, round by round: at last all is taken; no walk here. -/
import Derived.Test.YtmjogdhfndnbaaaWLose2
namespace Go.Proofs.Ytmjogdhfndnbaaa.Tape
set_option linter.unusedVariables false

/-- What is lost in a round. -/
def wloss (xs : List Int) (i : Nat) : Int := if i < xs.length then xs.getD i 0 % 4 else 0
def rbW (xs : List Int) (i : Nat) : Bool := decide (wloss xs i % 2 = 0)
def raW (xs : List Int) (i : Nat) : Bool := decide (wloss xs i < 2)
/-- The states. -/
def wst (c : Bool) (k : Nat) (xs : List Int) : Nat → LS
  | 0 => ls0
  | i + 1 => (wst c k xs i).rnd c k (rbW xs i) (raW xs i)

theorem wst_fine (c : Bool) (k : Nat) (xs : List Int) (hk : k < 40) : ∀ i, (wst c k xs i).Fine c k
  | 0 => ⟨by simp [wst, ls0], by simp [wst, ls0], by simp [wst, ls0], by simp [wst, ls0], hk, by simp [wst, ls0], by simp [wst, ls0], by simp [wst, ls0], fun _ => by simp [wst, ls0], fun _ => by simp [wst, ls0]⟩
  | i + 1 => by
    have ih := wst_fine c k xs hk i
    show ((wst c k xs i).rnd c k (rbW xs i) (raW xs i)).Fine c k
    cases c
    · exact LS.rnd_bas ih _ _
    · exact LS.rnd_cyc ih _ _

theorem wst_late (c : Bool) (k : Nat) (xs : List Int) (hx : xs.length ≤ 60) (i : Nat) (hi : 60 ≤ i) : wst c k xs (i + 1) = (wst c k xs i).rnd c k true true := by
  have h1 : rbW xs i = true := by unfold rbW wloss; rw [if_neg (by omega)]; decide
  have h2 : raW xs i = true := by unfold raW wloss; rw [if_neg (by omega)]; decide
  show (wst c k xs i).rnd c k (rbW xs i) (raW xs i) = _
  rw [h1, h2]

theorem wst_ndB (k : Nat) (xs : List Int) (hk : k < 40) (hx : xs.length ≤ 60) : ∀ d, (wst false k xs (60 + d)).ndB k ≤ 3 * k + 2 - d
  | 0 => by
    unfold LS.ndB
    split
    · split <;> omega
    · omega
  | d + 1 => by
    have ih := wst_ndB k xs hk hx d
    rw [show 60 + (d + 1) = 60 + d + 1 by omega, wst_late false k xs hx (60 + d) (by omega)]
    have := LS.rnd_basN (wst_fine false k xs hk (60 + d))
    omega

theorem wst_ndC (k : Nat) (xs : List Int) (hk : k < 40) (hx : xs.length ≤ 60) : ∀ d, (wst true k xs (61 + d)).ndC k ≤ 4 * k + 10 - d ∧ (wst true k xs (61 + d)).g ≤ (wst true k xs (61 + d)).f + 1
  | 0 => by
    have h := LS.rnd_cycN (wst_fine true k xs hk 60)
    rw [← wst_late true k xs hx 60 (by omega)] at h
    have := LS.ndC_le (wst_fine true k xs hk 61)
    exact ⟨by simpa using this, h.1⟩
  | d + 1 => by
    obtain ⟨i1, i2⟩ := wst_ndC k xs hk hx d
    rw [show 61 + (d + 1) = 61 + d + 1 by omega, wst_late true k xs hx (61 + d) (by omega)]
    have h := LS.rnd_cycN (wst_fine true k xs hk (61 + d))
    have := h.2 i2
    exact ⟨by omega, h.1⟩

/-- At last all is taken. -/
theorem wst_last (c : Bool) (k : Nat) (xs : List Int) (hk : k < 40) (hx : xs.length ≤ 60) (n : Nat) (hn : 300 ≤ n) : (wst c k xs n).g = k ∧ (wst c k xs n).P = k := by
  have hf := wst_fine c k xs hk n
  obtain ⟨h1, h2, h3, h4, h5, h6, h7, h8, h9, h10⟩ := hf
  cases c
  · have h := wst_ndB k xs hk hx (n - 60)
    rw [show 60 + (n - 60) = n by omega] at h
    unfold LS.ndB at h
    omega
  · have h := (wst_ndC k xs hk hx (n - 61)).1
    rw [show 61 + (n - 61) = n by omega] at h
    unfold LS.ndC at h
    omega
end Go.Proofs.Ytmjogdhfndnbaaa.Tape
