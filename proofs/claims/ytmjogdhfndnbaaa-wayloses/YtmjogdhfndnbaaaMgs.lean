/- The messages of the cyclic laws. -/
import Derived.Test.YtmjogdhfndnbaaaHold8
namespace Go.Proofs.Ytmjogdhfndnbaaa.Tape
open Go.ChangeShapes Go.WideShapes Go.ChangeAt Go.RowKit
set_option linter.unusedVariables false

/-- The messages 0 .. n-1. -/
def mg (i : Nat) : List Int := [(i : Int), 1, 2]
def mgs (n : Nat) : List (List Int) := (List.range n).map mg
theorem mgs_len (n : Nat) : (mgs n).length = n := by simp [mgs]
theorem mgs_succ (n : Nat) : mgs n ++ [mg n] = mgs (n + 1) := by simp [mgs, List.range_succ]
theorem sz_mgs (n : Nat) : sz (mgs n) = 3 * n := by
  induction n with
  | zero => rfl
  | succ n ih => rw [← mgs_succ, sz_append, ih]; simp [sz, mg]; omega
theorem mgs_drop (n j i : Nat) (h : i < ((mgs n).drop j).length) : ((mgs n).drop j)[i] = mg (j + i) := by
  simp [mgs]

/-- The messages a .. b-1. -/
def mgr (a b : Nat) : List (List Int) := (List.range' a (b - a)).map mg
theorem mgr_len (a b : Nat) : (mgr a b).length = b - a := by simp [mgr]
theorem mgr_get (a b i : Nat) (h : i < (mgr a b).length) : (mgr a b)[i] = mg (a + i) := by simp [mgr]
theorem mgr_cons {a b : Nat} (h : a < b) : mgr a b = mg a :: mgr (a + 1) b := by
  unfold mgr
  rw [show b - a = (b - (a + 1)) + 1 by omega, List.range'_succ]
  rfl
theorem mgr_nil {a b : Nat} (h : b ≤ a) : mgr a b = [] := by
  unfold mgr
  rw [show b - a = 0 by omega]
  rfl
theorem mgr_snoc {a b : Nat} (h : a ≤ b) : mgr a b ++ [mg b] = mgr a (b + 1) := by
  unfold mgr
  rw [show b + 1 - a = (b - a) + 1 by omega, List.range'_concat, List.map_append]
  simp
  congr 1
  omega
theorem mgr_drop (a b n : Nat) : (mgr a b).drop n = mgr (a + n) b := by
  unfold mgr
  rw [← List.map_drop, List.drop_range', show b - a - n = b - (a + n) by omega]
  simp
theorem sz_mgr (a : Nat) : ∀ n, sz (mgr a (a + n)) = 3 * n
  | 0 => by rw [mgr_nil (by omega)]; rfl
  | n + 1 => by
    rw [show a + (n + 1) = a + n + 1 by omega, ← mgr_snoc (by omega), sz_append, sz_mgr a n]
    simp [sz, mg]
    omega

/-- A message of ours, in memory. -/
theorem HMsg.three {w : World} {B : Nat} {v : Value} {x : List Int} (h : HMsg w B v x) (a b c : Int) (hx : x = [a, b, c]) : ∃ m cap, v = .slice (some ⟨m, 0, none⟩) 3 cap ∧ w.cell? ⟨m, 0, none⟩ = some (.int .u8 a) := by
  subst hx
  obtain ⟨m, cap, cur, rfl, -, -, -, hr⟩ := h.form
  obtain ⟨g, off, e, hc⟩ := hr 0 _ rfl
  simp only [Option.some.injEq, Addr.mk.injEq, and_true] at e
  obtain ⟨rfl, rfl⟩ := e
  exact ⟨m, cap, rfl, by simpa using hc⟩

theorem mgs_mgr (n : Nat) : mgs n = mgr 0 n := by
  unfold mgs mgr
  rw [Nat.sub_zero, List.range_eq_range']
end Go.Proofs.Ytmjogdhfndnbaaa.Tape
