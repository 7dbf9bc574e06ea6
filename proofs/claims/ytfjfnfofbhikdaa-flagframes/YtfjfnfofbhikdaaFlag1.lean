/- The contracts of flag's Flag, Frame, fits and Judge, and of the reference's; what they answer, as plain functions. -/
import Derived.Test.YtfjfnfofbhikdaaStuff3
import Derived.Test.YtfjfnfofbhikdaaRest4
namespace Go.Proofs.Ytfjfnfofbhikdaa.Tape
open Go.ChangeShapes Go.WideShapes Go.ChangeAt Go.RowKit

/-- The flag. -/
def flg : List Bool := [false, true, true, true, true, true, true, false]
/-- A unit's bits, with the flag behind. -/
def frm (xs : List Int) : List Bool := put (bits (xs ++ chk xs)) ++ flg
/-- What octets are as a unit, with the check: the octets, and the error's number. -/
def jdo (xs : List Int) (n : Nat) : List Int × Nat := if n < 5 then ([], 5) else if 279 < n then ([], 6) else if left xs = good then (xs.take (n - 2), 0) else ([], 7)
def jdp (P : List Bool × Nat) : List Int × Nat := if P.2 ≠ 0 then ([], 4) else if P.1.length % 8 ≠ 0 then ([], 8) else jdo (octsTo P.1 (P.1.length / 8)) (P.1.length / 8)
/-- The bits between two flags: the octets, and the error's number. -/
def jdg (bs : List Bool) : List Int × Nat := jdp (tk bs 0 [])

theorem flg_len : flg.length = 8 := rfl

theorem jdo_range (xs : List Int) (n : Nat) (h : ∀ x ∈ xs, 0 ≤ x ∧ x ≤ 255) : ∀ x ∈ (jdo xs n).1, 0 ≤ x ∧ x ≤ 255 := by
  intro x hx
  unfold jdo at hx
  split at hx
  · simp at hx
  · split at hx
    · simp at hx
    · split at hx
      · exact h x (List.mem_of_mem_take hx)
      · simp at hx

theorem jdg_range (bs : List Bool) : ∀ x ∈ (jdg bs).1, 0 ≤ x ∧ x ≤ 255 := by
  intro x hx
  unfold jdg jdp at hx
  split at hx
  · simp at hx
  · split at hx
    · simp at hx
    · exact jdo_range _ _ (octs_range _ _) x hx

theorem frm_len (xs : List Int) : (frm xs).length ≤ 16 * (xs.length + 2) + 8 ∧ 8 * (xs.length + 2) + 8 ≤ (frm xs).length ∧ 5 * (frm xs).length ≤ 48 * (xs.length + 2) + 40 := by
  have h1 := put_len (bits (xs ++ chk xs)) 0
  have h2 := sz_le (bits (xs ++ chk xs)) 0 (by omega)
  have h3 : (bits (xs ++ chk xs)).length = 8 * (xs.length + 2) := by rw [bits_len, List.length_append]; rfl
  have h4 : (frm xs).length = (putFrom (bits (xs ++ chk xs)) 0).length + 8 := by rw [frm, List.length_append]; rfl
  omega

theorem chk_range (xs : List Int) : ∀ x ∈ chk xs, 0 ≤ x ∧ x ≤ 255 := two_range _
theorem whole_range (xs : List Int) (h : ∀ x ∈ xs, 0 ≤ x ∧ x ≤ 255) : ∀ x ∈ xs ++ chk xs, 0 ≤ x ∧ x ≤ 255 := by
  intro x hx
  rcases List.mem_append.1 hx with hx | hx
  · exact h x hx
  · exact chk_range xs x hx

theorem jdg_put (xs : List Int) (h : ∀ x ∈ xs, 0 ≤ x ∧ x ≤ 255) (h3 : 3 ≤ xs.length) (h277 : xs.length ≤ 277) : jdg (put (bits (xs ++ chk xs))) = (xs, 0) := by
  have h1 : tk (put (bits (xs ++ chk xs))) 0 [] = (bits (xs ++ chk xs), 0) := by
    rw [show put (bits (xs ++ chk xs)) = putFrom (bits (xs ++ chk xs)) 0 from rfl, tk_put _ 0 [] (by omega)]; simp
  have hl : (xs ++ chk xs).length = xs.length + 2 := by rw [List.length_append]; rfl
  have h2 : (bits (xs ++ chk xs)).length = 8 * (xs.length + 2) := by rw [bits_len, hl]
  have h4 : (bits (xs ++ chk xs)).length / 8 = (xs ++ chk xs).length := by omega
  unfold jdg
  rw [h1]
  unfold jdp
  rw [if_neg (by simp), if_neg (by simp; omega)]
  simp only [h4]
  rw [octs_bits _ (whole_range xs h), jdo, if_neg (by omega), if_neg (by omega), if_pos (left_whole xs), hl]
  simp

/-- What is appended: a slice of bits that reads ys, nil or not; of either type. -/
theorem append_bits {w : World} {ops : Array Oper} {rest : List Oper} {o : Oper} {a : Act} {Q : Exit → Act → World → Prop} (hgd : o.guard = none) (t : TypeId) (ht : Try.prog.underlying t = some (.slice 4)) (s x : Operand)
    (ho : o.op = .call { callee := .builtin .append, args := #[s, x], argTypes := #[t, t] }) (base : Nat) (v : Value) (n : Nat) (us : List Value) (hs : a.eval s = v) (hown : w.ownsRow base 4 1 v n us)
    (ao : Option Addr) (m c : Nat) (ys : List Bool) (hx : a.eval x = .slice ao m c) (hl : ys.length = m) (hr : Reads w ao (ys.map .bool)) (hnil : ao = none → c = 0)
    (h63 : n + m ≤ 1000000) (hbase : base ≤ w.heap.size)
    (h : ∀ v' w', w'.ownsRow base 4 1 v' (n + m) (us ++ ys.map .bool) → Below base w w' → w.grownBy w' v.ownBlock → wpList Try.prog ops Q rest (a.put o.dst v') w') : wpList Try.prog ops Q (o :: rest) a w := by
  obtain ⟨i0, hi, hz0, hz1, hz2⟩ := info_parts info4
  cases ao with
  | none =>
    have e := hr.none_nil
    have e' : ys = [] := by simpa using e
    subst e'
    have hm : m = 0 := by simpa using hl.symm
    subst hm
    obtain rfl := hnil rfl
    refine wpList_append_own_none hgd s x t ho base 4 i0 1 ht hi v n us hs hown hx ?_
    exact h v w (by simpa using hown) (Below.refl _ _) ⟨rfl, rfl, rfl, Nat.le_refl _, fun _ _ _ => rfl⟩
  | some ad =>
    refine wpList_append_own w hgd s x t ho base 4 i0 (.bool false) 1 1 ht hi hz0 hz1 hz2 rfl (by decide) v n us hs hown ad m c (ys.map .bool) hx (by simp [hl]) hr.at (by intro u hu; obtain ⟨b, _, rfl⟩ := List.mem_map.1 hu; rfl) (by unfold maxLen; omega) (by omega) hbase ?_
    intro v' w' hown' hgrow _
    exact h v' w' hown' ((Below.refl base w).grown hgrow hbase (fun k hk => (hown.lt k hk).1)) hgrow

theorem owns_new4 {w : World} {base : Nat} (h : base ≤ w.heap.size) (cs : List Value) (n : Nat) (hn : cs.length = n) (hm : n ≤ maxLen) : (w.alloc (.cells cs.toArray 4)).ownsRow base 4 1 (.slice (some ⟨w.heap.size, 0, none⟩) n n) n cs :=
  ⟨by omega, .inr ⟨w.heap.size, n, cs.toArray, rfl, h, heap_alloc_new w _, Nat.le_refl _, hm, by simp [hn], by simp [List.take_of_length_le (show cs.length ≤ n by omega)]⟩⟩

theorem flag_any (w : World) : Calls Try.prog 15 #[] w fun e w' => ∃ v, e = .returned v ∧ w'.ownsRow w.heap.size 4 1 v 8 (flg.map .bool) ∧ Below w.heap.size w w' := by
  go_enter Try.func15, Try.ntmps15
  go_wp2
  go_ret
  exact ⟨_, rfl, owns_new4 (Nat.le_refl _) _ 8 rfl (by unfold maxLen; omega), (Below.refl _ _).alloc (Nat.le_refl _) _⟩

theorem rflag_any (w : World) : Calls Try.prog 16 #[] w fun e w' => ∃ v, e = .returned v ∧ w'.ownsRow w.heap.size 4 1 v 8 (flg.map .bool) ∧ Below w.heap.size w w' := by
  go_enter Try.func16, Try.ntmps16
  go_wp2
  go_ret
  exact ⟨_, rfl, owns_new4 (Nat.le_refl _) _ 8 rfl (by unfold maxLen; omega), (Below.refl _ _).alloc (Nat.le_refl _) _⟩

theorem fits_any (n : Nat) (w : World) (hl : n ≤ 1000000) : Calls Try.prog 28 #[.int .i64 n] w fun e w' => e = .returned (.int .i64 (if n < 5 then 5 else if 279 < n then 6 else 0)) ∧ w' = w := by
  by_cases h5 : n < 5
  · go_enter Try.func28, Try.ntmps28
    go_wp2
    go_ret
    exact ⟨by simp, rfl⟩
  · by_cases h6 : 279 < n
    · go_enter Try.func28, Try.ntmps28
      go_wp2
      go_ret
      exact ⟨by simp, rfl⟩
    · go_enter Try.func28, Try.ntmps28
      go_wp2
      go_ret
      exact ⟨by simp, rfl⟩
end Go.Proofs.Ytfjfnfofbhikdaa.Tape
