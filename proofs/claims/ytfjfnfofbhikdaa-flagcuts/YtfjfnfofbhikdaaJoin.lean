/- What several packages' contracts share: the append of a slice, nil or not, to a row that the call owns; no walk here. -/
import Derived.Test.YtfjfnfofbhikdaaTape6
import Derived.Laws.AppendOwnNone
namespace Go.Proofs.Ytfjfnfofbhikdaa.Tape
open Go.ChangeShapes Go.WideShapes Go.ChangeAt Go.RowKit

theorem ret_bool {a b : Bool} (h : a = b) : Ending.returned (.bool a) = .returned (.bool b) := by rw [h]

theorem Reads.at {w : World} {ad : Addr} {vs : List Value} (h : Reads w (some ad) vs) : ∀ j u, vs[j]? = some u → w.cell? (ad.add j) = some u := fun j u hj => by
  obtain ⟨g, off, e, hc⟩ := h j u hj
  simp only [Option.some.injEq] at e
  subst e
  rw [Addr.add_lit]; exact hc

theorem Reads.none_nil {w : World} {vs : List Value} (h : Reads w none vs) : vs = [] := by
  cases vs with
  | nil => rfl
  | cons v vs => obtain ⟨g, off, e, _⟩ := h 0 v rfl; cases e

theorem owns_new {w : World} {base : Nat} (h : base ≤ w.heap.size) (cs : List Value) (n : Nat) (hn : cs.length = n) (hm : n ≤ maxLen) : (w.alloc (.cells cs.toArray 5)).ownsRow base 5 1 (.slice (some ⟨w.heap.size, 0, none⟩) n n) n cs :=
  ⟨by omega, .inr ⟨w.heap.size, n, cs.toArray, rfl, h, heap_alloc_new w _, Nat.le_refl _, hm, by simp [hn], by simp [List.take_of_length_le (show cs.length ≤ n by omega)]⟩⟩

theorem owns_lower {w : World} {base b' : Nat} {e : TypeId} {v : Value} {n : Nat} {vs : List Value} (h : w.ownsRow base e 1 v n vs) (hb : b' ≤ base) : w.ownsRow b' e 1 v n vs := by
  refine ⟨h.1, ?_⟩
  rcases h.2 with h' | ⟨g, cap, cur, hv, hB, rest⟩
  · exact .inl h'
  · exact .inr ⟨g, cap, cur, hv, by omega, rest⟩

/-- What is appended: a slice of bits that reads ys, nil or not. -/
theorem append_bools {w : World} {ops : Array Oper} {rest : List Oper} {o : Oper} {a : Act} {Q : Exit → Act → World → Prop} (hgd : o.guard = none) (s x : Operand)
    (ho : o.op = .call { callee := .builtin .append, args := #[s, x], argTypes := #[27, 27] }) (base : Nat) (v : Value) (n : Nat) (us : List Value) (hs : a.eval s = v) (hown : w.ownsRow base 4 1 v n us)
    (ao : Option Addr) (m c : Nat) (ys : List Bool) (hx : a.eval x = .slice ao m c) (hl : ys.length = m) (hr : Reads w ao (ys.map .bool)) (hnil : ao = none → c = 0)
    (h63 : n + m ≤ 1000000) (hbase : base ≤ w.heap.size)
    (h : ∀ v' w', w'.ownsRow base 4 1 v' (n + m) (us ++ ys.map .bool) → Below base w w' → wpList Try.prog ops Q rest (a.put o.dst v') w') : wpList Try.prog ops Q (o :: rest) a w := by
  obtain ⟨i0, hi, hz0, hz1, hz2⟩ := info_parts info4
  cases ao with
  | none =>
    have e := hr.none_nil
    have e' : ys = [] := by simpa using e
    subst e'
    have hm : m = 0 := by simpa using hl.symm
    subst hm
    obtain rfl := hnil rfl
    refine wpList_append_own_none hgd s x 27 ho base 4 i0 1 Try.underlying27 hi v n us hs hown hx ?_
    exact h v w (by simpa using hown) (Below.refl _ _)
  | some ad =>
    refine wpList_append_own w hgd s x 27 ho base 4 i0 (.bool false) 1 1 Try.underlying27 hi hz0 hz1 hz2 rfl (by decide) v n us hs hown ad m c (ys.map .bool) hx (by simp [hl]) hr.at (by intro u hu; obtain ⟨b, _, rfl⟩ := List.mem_map.1 hu; rfl) (by unfold maxLen; omega) (by omega) hbase ?_
    intro v' w' hown' hgrow _
    exact h v' w' hown' ((Below.refl base w).grown hgrow hbase (fun k hk => (hown.lt k hk).1))
end Go.Proofs.Ytfjfnfofbhikdaa.Tape
