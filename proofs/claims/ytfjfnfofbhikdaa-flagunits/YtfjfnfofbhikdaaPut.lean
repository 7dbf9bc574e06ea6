/- Plain facts on noughts that are put in (put, tk, sz): no walk here. -/
import Derived.Test.YtfjfnfofbhikdaaBits
namespace Go.Proofs.Ytfjfnfofbhikdaa.Tape

/-- l with a nought behind each five ones, where r ones stand ahead of it. -/
def putFrom : List Bool → Nat → List Bool
  | [], _ => []
  | true :: l, r => if r = 4 then true :: false :: putFrom l 0 else true :: putFrom l (r + 1)
  | false :: l, _ => false :: putFrom l 0
def put (l : List Bool) : List Bool := putFrom l 0
/-- How many noughts are put in. -/
def szFrom : List Bool → Nat → Nat
  | [], _ => 0
  | true :: l, r => if r = 4 then szFrom l 0 + 1 else szFrom l (r + 1)
  | false :: l, _ => szFrom l 0
/-- l without the noughts, behind acc, where r ones stand ahead of it; and the error's number. -/
def tk : List Bool → Nat → List Bool → List Bool × Nat
  | [], r, acc => if r = 5 then ([], 5) else (acc, 0)
  | b :: l, r, acc => if r = 5 then (if b then ([], 4) else tk l 0 acc) else tk l (if b then r + 1 else 0) (acc ++ [b])

theorem put_len : ∀ (l : List Bool) (r : Nat), (putFrom l r).length = l.length + szFrom l r
  | [], _ => rfl
  | true :: l, r => by
    by_cases h : r = 4
    · have := put_len l 0; simp [putFrom, szFrom, h]; omega
    · have := put_len l (r + 1); simp [putFrom, szFrom, h]; omega
  | false :: l, r => by have := put_len l 0; simp [putFrom, szFrom]; omega

theorem sz_le : ∀ (l : List Bool) (r : Nat), r < 5 → 5 * szFrom l r ≤ l.length + r
  | [], _, _ => by simp [szFrom]
  | true :: l, r, hr => by
    by_cases h : r = 4
    · have := sz_le l 0 (by omega); simp [szFrom, h]; omega
    · have := sz_le l (r + 1) (by omega); simp [szFrom, h]; omega
  | false :: l, r, _ => by have := sz_le l 0 (by omega); simp [szFrom]; omega

theorem tk_put : ∀ (l : List Bool) (r : Nat) (acc : List Bool), r < 5 → tk (putFrom l r) r acc = (acc ++ l, 0)
  | [], r, acc, hr => by simp [putFrom, tk]; omega
  | true :: l, r, acc, hr => by
    by_cases h : r = 4
    · subst h; simp [putFrom, tk, tk_put l 0 _ (by omega)]
    · simp [putFrom, h, tk, show ¬ r = 5 by omega, tk_put l (r + 1) _ (by omega)]
  | false :: l, r, acc, hr => by simp [putFrom, tk, show ¬ r = 5 by omega, tk_put l 0 _ (by omega)]

theorem put_inj {a b : List Bool} (h : put a = put b) : a = b := by
  have h1 := tk_put a 0 [] (by omega)
  have h2 := tk_put b 0 [] (by omega)
  rw [show putFrom a 0 = putFrom b 0 from h, h2] at h1
  simpa using h1.symm

theorem put_runs : ∀ (l : List Bool) (r : Nat), r < 5 → onesFrom (putFrom l r) + r ≤ 5 ∧ longest (putFrom l r) ≤ 5
  | [], r, hr => by simp [putFrom, onesFrom, longest]; omega
  | true :: l, r, hr => by
    by_cases h : r = 4
    · have := put_runs l 0 (by omega)
      simp [putFrom, h, onesFrom, longest]; omega
    · have := put_runs l (r + 1) (by omega)
      simp [putFrom, h, onesFrom, longest]; omega
  | false :: l, r, hr => by
    have := put_runs l 0 (by omega)
    simp [putFrom, onesFrom, longest]; omega

theorem put_tk : ∀ (l : List Bool) (r : Nat) (acc out : List Bool), r ≤ 5 → tk l r acc = (out, 0) →
    ∃ m, out = acc ++ m ∧ (r < 5 → putFrom m r = l) ∧ (r = 5 → false :: putFrom m 0 = l)
  | [], r, acc, out, hr, h => by
    by_cases h5 : r = 5
    · simp [tk, h5] at h
    · simp [tk, h5] at h
      exact ⟨[], by simp [h], fun _ => rfl, fun e => absurd e h5⟩
  | true :: l, r, acc, out, hr, h => by
    by_cases h5 : r = 5
    · simp [tk, h5] at h
    · simp only [tk, h5, if_false, if_true] at h
      obtain ⟨m, e, h1, h2⟩ := put_tk l (r + 1) _ _ (by omega) h
      refine ⟨true :: m, by simp [e], fun _ => ?_, fun e => absurd e h5⟩
      by_cases h4 : r = 4
      · simp only [putFrom, h4, if_true]; rw [h2 (by omega)]
      · simp only [putFrom, h4, if_false]; rw [h1 (by omega)]
  | false :: l, r, acc, out, hr, h => by
    by_cases h5 : r = 5
    · simp only [tk, h5, if_true] at h
      obtain ⟨m, e, h1, h2⟩ := put_tk l 0 _ _ (by omega) h
      exact ⟨m, e, fun h => absurd h5 (by omega), fun _ => by rw [h1 (by omega)]⟩
    · simp only [tk, h5, if_false] at h
      obtain ⟨m, e, h1, h2⟩ := put_tk l 0 _ _ (by omega) h
      exact ⟨false :: m, by simp [e], fun _ => by rw [putFrom, h1 (by omega)], fun e => absurd e h5⟩

theorem put_parts : ∀ (a b : List Bool) (r : Nat), putFrom (a ++ [false] ++ b) r = putFrom (a ++ [false]) r ++ putFrom b 0
  | [], b, r => by simp [putFrom]
  | true :: a, b, r => by
    have h1 := put_parts a b 0
    have h2 := put_parts a b (r + 1)
    by_cases h : r = 4
    · simp at h1; simp [putFrom, h, h1]
    · simp at h2; simp [putFrom, h, h2]
  | false :: a, b, r => by
    have h1 := put_parts a b 0
    simp at h1; simp [putFrom, h1]

theorem tk_len : ∀ (l : List Bool) (r : Nat) (acc : List Bool), (tk l r acc).1.length ≤ acc.length + l.length
  | [], r, acc => by by_cases h : r = 5 <;> simp [tk, h]
  | true :: l, r, acc => by
    by_cases h : r = 5
    · simp [tk, h]
    · have := tk_len l (r + 1) (acc ++ [true])
      simp [tk, h] at this ⊢; omega
  | false :: l, r, acc => by
    by_cases h : r = 5
    · have := tk_len l 0 acc
      simp [tk, h]; omega
    · have := tk_len l 0 (acc ++ [false])
      simp [tk, h] at this ⊢; omega

/-- An error leaves nothing. -/
theorem tk_err : ∀ (l : List Bool) (r : Nat) (acc : List Bool), (tk l r acc).2 = 0 ∨ (((tk l r acc).2 = 4 ∨ (tk l r acc).2 = 5) ∧ (tk l r acc).1 = [])
  | [], r, acc => by by_cases h : r = 5 <;> simp [tk, h]
  | b :: l, r, acc => by
    by_cases h : r = 5
    · cases b
      · simpa [tk, h] using tk_err l 0 acc
      · simp [tk, h]
    · simpa [tk, h] using tk_err l (if b then r + 1 else 0) (acc ++ [b])
end Go.Proofs.Ytfjfnfofbhikdaa.Tape
