/- The contract of the tape laws' own example (awake), and what the laws ask of their arguments. -/
import Derived.Test.YtfjfnfofbhikdaaTape3
import Derived.WalkSmall
namespace Go.Proofs.Ytfjfnfofbhikdaa.Tape
open Go.ChangeShapes Go.WideShapes Go.ChangeAt Go.RowKit

theorem bits6 : bits [6] = [false, true, true, false, false, false, false, false] := by decide

theorem reads_new (w : World) (x : Int) : Reads (w.alloc (.cells #[.int .u8 x] 5)) (some ⟨w.heap.size, 0, none⟩) ([x].map (.int .u8)) := fun k v hk => by
  refine ⟨_, _, rfl, ?_⟩
  match k, hk with
  | 0, hk => simp at hk; subst hk; simp

/-- What a law is told of a slice of octets that came in, as a list. -/
theorem row_reads {w : World} {a : Option Addr} {len cap : Nat} {zs : List Int} (h : (a = none ∧ len = 0 ∧ cap = 0 ∧ zs = []) ∨
    ∃ x, a = some x ∧ len ≤ cap ∧ cap ≤ maxLen ∧ zs.length = cap ∧ (∀ i, i < zs.length → w.cell? (x.add i) = some (.int .u8 (zs.getD i 0))) ∧ ∀ n ∈ zs, (Lit.int .u8 n).wf = true) :
    ∃ xs : List Int, len = xs.length ∧ Reads w a (xs.map (.int .u8)) ∧ ∀ x ∈ xs, 0 ≤ x ∧ x ≤ 255 := by
  rcases h with ⟨rfl, rfl, rfl, rfl⟩ | ⟨x, rfl, h1, h2, h3, h4, h5⟩
  · exact ⟨[], rfl, Reads.nil _ _, by simp⟩
  · refine ⟨zs.take len, by simp; omega, Reads.of_bytes h4 (by omega), fun n hn => ?_⟩
    exact bounds_u8 (h5 n (List.mem_of_mem_take hn))

/-- The form of a slice that the call owns, nil or not. -/
theorem owns_form {w : World} {base : Nat} {e : TypeId} {v : Value} {n : Nat} {vs : List Value} (h : w.ownsRow base e 1 v n vs) :
    ∃ ao cap, v = .slice ao n cap ∧ n ≤ cap ∧ Reads w ao vs ∧ ((ao = none ∧ n = 0 ∧ cap = 0) ∨ ∃ g, ao = some ⟨g, 0, none⟩) := by
  have h' := h
  rcases h.2 with ⟨rfl, h0⟩ | ⟨g, cap, cur, rfl, _, _, hc, _⟩
  · subst h0
    exact ⟨none, 0, rfl, Nat.le_refl _, Reads.of_owns h', .inl ⟨rfl, rfl, rfl⟩⟩
  · exact ⟨_, cap, rfl, hc, Reads.of_owns h', .inr ⟨g, rfl⟩⟩

/-! The contracts at a length that is a letter. -/
theorem low_n (ao : Option Addr) (n cap : Nat) (bs : List Bool) (w : World) (hn : bs.length = n) (hl : n ≤ 1000000) (h : Reads w ao (bs.map .bool)) :
    Calls Try.prog 46 #[.slice ao n cap] w fun e w' => e = .returned (.int .u8 (low bs (min 8 n))) ∧ w' = w := by subst hn; exact low_any ao cap bs w hl h
theorem rsame_n (ao bo : Option Addr) (m n ca cb : Nat) (cs bs : List Bool) (w : World) (hm : cs.length = m) (hn : bs.length = n) (hl : m ≤ 1000000) (hl' : n ≤ 1000000) (ha : Reads w ao (cs.map .bool)) (hb : Reads w bo (bs.map .bool)) :
    Calls Try.prog 13 #[.slice ao m ca, .slice bo n cb] w fun e w' => e = .returned (.bool (decide (cs = bs))) ∧ Below w.heap.size w w' := by subst hm hn; exact rsame_any ao bo ca cb cs bs w hl hl' ha hb
theorem rbits_n (ao : Option Addr) (n cap : Nat) (xs : List Int) (w : World) (hn : xs.length = n) (hl : n ≤ 100000) (hx : ∀ x ∈ xs, 0 ≤ x ∧ x ≤ 255) (h : Reads w ao (xs.map (.int .u8))) :
    Calls Try.prog 17 #[.slice ao n cap] w fun e w' => ∃ v, e = .returned v ∧ w'.ownsRow w.heap.size 4 1 v (8 * n) ((bits xs).map .bool) ∧ Below w.heap.size w w' := by subst hn; exact rbits_any ao cap xs w hl hx h
theorem rtext_n (ao : Option Addr) (n cap : Nat) (bs : List Bool) (w : World) (hn : bs.length = n) (hl : n ≤ 1000000) (h : Reads w ao (bs.map .bool)) :
    Calls Try.prog 35 #[.slice ao n cap] w fun e w' => e = .returned (.string ⟨(txt bs).toArray⟩) ∧ Below w.heap.size w w' := by subst hn; exact rtext_any ao cap bs w hl h

theorem Reads.drewN {w : World} {ao : Option Addr} {vs : List Value} (h : Reads w ao vs) (q : Nat) : Reads (w.drewN q) ao vs := h.below (Nat.le_refl _) (below_drewN (Below.refl _ _) q)

/-- What is left of bs when c bits, at most, are cut off. -/
theorem cut_at (n : Nat) (c : Int) : ∃ H : Nat, (n : Int) - c % (n + 1) = H ∧ H ≤ n := by
  have h1 := Int.emod_lt_of_pos c (show (0 : Int) < n + 1 by omega)
  have h2 := Int.emod_nonneg c (show (n : Int) + 1 ≠ 0 by omega)
  exact ⟨((n : Int) - c % (n + 1)).toNat, by omega, by omega⟩

end Go.Proofs.Ytfjfnfofbhikdaa.Tape
