/- Rows of messages in memory: what a slice of slices holds, a part of it, one more behind it; lists of messages; what a call may touch. No walk here. -/
import Derived.Test.YtldjglmelbkngaaGreatBase
import Derived.Test.YtldjglmelbkngaaGreatRing
import Derived.ArgAppend
namespace Go.Proofs.YtldjglmelbkngaaGreat.Tape
open Go.ChangeShapes Go.WideShapes Go.ChangeAt Go.RowKit
set_option linter.unusedVariables false

/-- A slice of slices in memory: its elements. -/
def RowAt (w : World) (v : Value) (us : List Value) : Prop :=
  (v = .slice none 0 0 ∧ us = []) ∨
  ∃ g off cap cur, v = .slice (some ⟨g, off, none⟩) us.length cap ∧ w.heap[g]? = some (.cells cur 30 (0, 0)) ∧ us.length ≤ cap ∧ off + cap ≤ cur.size ∧ (cur.toList.drop off).take us.length = us

theorem RowAt.nil (w : World) : RowAt w (.slice none 0 0) [] := .inl ⟨rfl, rfl⟩

theorem RowAt.type {w : World} {v : Value} {us : List Value} (h : RowAt w v us) : ∀ g, v.ownBlock = some g → ∃ cur, w.heap[g]? = some (.cells cur 30 (0, 0)) := by
  rintro g hg
  rcases h with ⟨rfl, _⟩ | ⟨g', off, cap, cur, rfl, hh, _⟩
  · simp [Value.ownBlock] at hg
  · simp [Value.ownBlock] at hg
    subst hg
    exact ⟨cur, hh⟩
theorem RowAt.lt {w : World} {v : Value} {us : List Value} (h : RowAt w v us) : ∀ g, v.ownBlock = some g → g < w.heap.size := fun g hg => by
  obtain ⟨cur, hh⟩ := h.type g hg
  exact heap_lt hh

theorem RowAt.at_ {w w' : World} {v : Value} {us : List Value} (h : RowAt w v us) (hk : ∀ g, v.ownBlock = some g → w'.heap[g]? = w.heap[g]?) : RowAt w' v us := by
  rcases h with h | ⟨g, off, cap, cur, rfl, hh, rest⟩
  · exact .inl h
  · exact .inr ⟨g, off, cap, cur, rfl, (hk g rfl).trans hh, rest⟩

theorem RowAt.of_owns {w : World} {B n : Nat} {v : Value} {us : List Value} (h : w.ownsRow B 30 1 v n us) : RowAt w v us := by
  have h1 := h.1
  rcases h.2 with ⟨rfl, h0⟩ | ⟨g, cap, cur, rfl, _, hg, hc, _, hs, ht⟩
  · subst h0
    exact .inl ⟨rfl, List.eq_nil_of_length_eq_zero (by simpa using h1)⟩
  · have e : us.length = n := by simpa using h1
    subst e
    exact .inr ⟨g, 0, cap, cur, rfl, hg, hc, by omega, by simpa using ht⟩

theorem RowAt.cell {w : World} {ao : Option Addr} {n cap : Nat} {us : List Value} (h : RowAt w (.slice ao n cap) us) : n = us.length ∧ n ≤ cap ∧ (ao = none → cap = 0) ∧ Reads w ao us := by
  rcases h with ⟨e, rfl⟩ | ⟨g, off, cap', cur, e, hh, h1, h2, h3⟩
  · simp only [Value.slice.injEq] at e
    obtain ⟨rfl, rfl, rfl⟩ := e
    exact ⟨rfl, Nat.le_refl _, fun _ => rfl, Reads.nil _ _⟩
  · simp only [Value.slice.injEq] at e
    obtain ⟨rfl, rfl, rfl⟩ := e
    refine ⟨rfl, h1, fun e => (by cases e), fun k u hk => ⟨g, off, rfl, ?_⟩⟩
    have hlt : k < us.length := (List.getElem?_eq_some_iff.1 hk).1
    rw [← h3, List.getElem?_take, if_pos hlt, List.getElem?_drop] at hk
    have hh' : w.heap[g]? = some (.cells cur.toList.toArray 30 (0, 0)) := by simpa using hh
    rw [Lib.cell_of_heap hh']
    simpa using hk

theorem RowAt.form {w : World} {v : Value} {us : List Value} (h : RowAt w v us) : ∃ ao cap, v = .slice ao us.length cap := by
  rcases h with ⟨rfl, rfl⟩ | ⟨g, off, cap, cur, rfl, _⟩
  · exact ⟨none, 0, rfl⟩
  · exact ⟨_, cap, rfl⟩

theorem RowAt.form3 {w : World} {v : Value} {us : List Value} (h : RowAt w v us) : ∃ ao n cap, v = .slice ao n cap := by
  obtain ⟨ao, cap, e⟩ := h.form
  exact ⟨ao, _, cap, e⟩

/-- A part of a row. -/
theorem RowAt.part {w : World} {ao : Option Addr} {n cap : Nat} {us : List Value} (h : RowAt w (.slice ao n cap) us) (l k m : Nat) (h1 : l ≤ k) (h2 : k ≤ n) (h3 : k ≤ m) (h4 : m ≤ cap) :
    RowAt w (.slice (if m = l then ao else ao.map (·.add l)) (k - l) (m - l)) ((us.take k).drop l) := by
  rcases h with ⟨e, rfl⟩ | ⟨g, off, cap', cur, e, hh, g1, g2, g3⟩
  · simp only [Value.slice.injEq] at e
    obtain ⟨rfl, rfl, rfl⟩ := e
    obtain rfl : k = 0 := by omega
    obtain rfl : m = 0 := by omega
    obtain rfl : l = 0 := by omega
    exact .inl ⟨by simp, by simp⟩
  · simp only [Value.slice.injEq] at e
    obtain ⟨rfl, rfl, rfl⟩ := e
    have hl : ((us.take k).drop l).length = k - l := by simp; omega
    have hd : ((us.take k).drop l) = (cur.toList.drop (off + l)).take (k - l) := by
      rw [← g3, List.take_take, Nat.min_eq_left h2, List.drop_take, List.drop_drop]
    right
    by_cases e : m = l
    · refine ⟨g, off, m - l, cur, by rw [if_pos e, hl], hh, by omega, by omega, ?_⟩
      rw [hl, show k - l = 0 by omega, List.take_zero]
      exact (List.eq_nil_of_length_eq_zero (by rw [hl]; omega)).symm
    · refine ⟨g, off + l, m - l, cur, by rw [if_neg e, hl]; simp [Addr.add_lit], hh, by omega, by omega, ?_⟩
      rw [hl, hd]

/-- The first one of a row is written over. -/
theorem RowAt.head {w : World} {g off n cap : Nat} {u : Value} {us : List Value} (h : RowAt w (.slice (some ⟨g, off, none⟩) n cap) (u :: us)) (x : Value) :
    RowAt (w.setCell ⟨g, off, none⟩ x) (.slice (some ⟨g, off, none⟩) n cap) (x :: us) := by
  rcases h with ⟨e, _⟩ | ⟨g', off', cap', cur, e, hh, g1, g2, g3⟩
  · simp at e
  · simp only [Value.slice.injEq, Option.some.injEq, Addr.mk.injEq, and_true] at e
    obtain ⟨⟨rfl, rfl⟩, rfl, rfl⟩ := e
    have hs := row_set (cs := cur.toList) (by simpa using hh) off x
    right
    refine ⟨g, off, cap, (cur.toList.set off x).toArray, rfl, hs, by simpa using g1, by simpa using g2, ?_⟩
    simp only [List.length_cons] at g1 g3 ⊢
    have hlt : off < cur.toList.length := by simp only [Array.length_toList]; omega
    rw [List.drop_eq_getElem_cons hlt, List.take_succ_cons] at g3
    simp only [List.cons.injEq] at g3
    rw [List.drop_eq_getElem_cons (show off < (cur.toList.set off x).length by simpa using hlt), List.take_succ_cons, List.drop_set_of_lt (by omega)]
    simp [g3.2]

theorem info31 : (Tryz.prog.info? 30).map (fun i => (i.zero, i.size, i.bytes)) = some (some (.slice none 0 0), 1, 24) := by kernel_rfl

theorem RowAt.frozen {w : World} {g off n cap : Nat} {us : List Value} (h : RowAt w (.slice (some ⟨g, off, none⟩) n cap) us) (k : Nat) : w.frozen? ⟨g, k, none⟩ = false ∧ (k < off + cap → (w.cell? ⟨g, k, none⟩).isSome = true) := by
  rcases h with ⟨e, _⟩ | ⟨g', off', cap', cur, e, hh, g1, g2, g3⟩
  · simp at e
  · simp only [Value.slice.injEq, Option.some.injEq, Addr.mk.injEq, and_true] at e
    obtain ⟨⟨rfl, rfl⟩, rfl, rfl⟩ := e
    have hh' : w.heap[g]? = some (.cells cur.toList.toArray 30 (0, 0)) := by simpa using hh
    refine ⟨Lib.frozen_of_heap hh' k, fun hk => ?_⟩
    rw [Lib.cell_of_heap hh']
    simp only [List.getElem?_toArray]
    rw [List.getElem?_eq_getElem (by simp only [Array.length_toList]; omega)]
    rfl

theorem gb_set {w : World} {b k : Nat} (u : Value) : w.grownBy (w.setCell ⟨b, k, none⟩ u) (some b) :=
  ⟨rfl, rfl, rfl, by simp [World.setCell], fun i _ hi => Below.heap_setCell _ _ _ _ (fun e => hi (by rw [e]))⟩

/-- One more behind a row. -/
theorem row_push {w : World} {ops : Array Oper} {rest : List Oper} {o : Oper} {a : Act} {Q : Exit → Act → World → Prop} (hgd : o.guard = none) (s x : Operand)
    (ho : o.op = .call { callee := .builtin .append, args := #[s, x], argTypes := #[95, 95] }) (v : Value) (us : List Value) (hs : a.eval s = v) (hrow : RowAt w v us)
    (ad : Addr) (u : Value) (c : Nat) (hx : a.eval x = .slice (some ad) 1 c) (hc : w.cell? ad = some u) (h1 : u.oneCell' = true) (hn : us.length ≤ 2000000)
    (h : ∀ v' w', RowAt w' v' (us ++ [u]) → w.grownBy w' v.ownBlock → (∀ g, v'.ownBlock = some g → v.ownBlock = some g ∨ w.heap.size ≤ g) → wpList Tryz.prog ops Q rest (a.put o.dst v') w') : wpList Tryz.prog ops Q (o :: rest) a w := by
  obtain ⟨i0, hi, hz0, hz1, hz2⟩ := info_parts info31
  have hnews : ∀ j w', ([u] : List Value)[j]? = some w' → w.cell? (ad.add j) = some w' := fun j w' hj => by
    cases j with
    | zero => simp at hj; subst hj; simpa [Addr.add] using hc
    | succ j => simp at hj
  have hg : ∀ v' w', w'.ownsRow w.heap.size 30 1 v' (us.length + 1) (us ++ [u]) → w.grownBy w' none → wpList Tryz.prog ops Q rest (a.put o.dst v') w' := fun v' w' hown hgr =>
    h v' w' (RowAt.of_owns hown) ⟨hgr.os, hgr.tape, hgr.output, hgr.size, fun i hi _ => hgr.block i hi (by simp)⟩ (fun g hg => .inr (hown.lt g hg).1)
  have hrow' := hrow
  rcases hrow with ⟨rfl, rfl⟩ | ⟨g, off, cap, cur, rfl, hh, g1, g2, g3⟩
  · refine wpList_append_grows w hgd s x 95 ho 30 i0 (.slice none 0 0) 1 24 Tryz.underlying95 hi hz0 hz1 hz2 rfl (by decide) none 0 0 [] hs (fun _ => ⟨rfl, rfl⟩) rfl (fun b hb => by cases hb) ad 1 c [u] hx rfl hnews (by simpa using h1) (by omega) (by unfold maxLen; omega) (by omega) ?_
    simpa using hg
  · obtain ⟨-, -, -, hr⟩ := hrow'.cell
    refine wpList_append_arg w hgd s x 95 ho 30 i0 (.slice none 0 0) 1 24 Tryz.underlying95 hi hz0 hz1 hz2 rfl (by decide) g off us.length cap us hs (by simp) (fun j u' hj => ?_) ad 1 c [u] hx rfl hnews (by simpa using h1) (fun hroom j hj => ?_) (by unfold maxLen; omega) (by omega) (fun hroom => ?_) (fun _ => hg)
    · obtain ⟨g', off', e, hc'⟩ := hr j u' hj
      simp only [Option.some.injEq, Addr.mk.injEq, and_true] at e
      obtain ⟨rfl, rfl⟩ := e
      exact hc'
    · have := hrow'.frozen (off + us.length * 1 + j)
      simp at hj
      exact ⟨this.2 (by omega), this.1⟩
    · have e : w.setCells g (off + us.length * 1) [u] = w.setCell ⟨g, off + us.length, none⟩ u := by simp [World.setCells]
      rw [e]
      have hs' := row_set (cs := cur.toList) (by simpa using hh) (off + us.length) u
      refine h _ _ (.inr ⟨g, off, cap, _, by simp, hs', by simpa using hroom, by simpa using g2, ?_⟩) (gb_set u) (fun g' hg' => .inl hg')
      have hlt : off + us.length < cur.toList.length := by simp only [Array.length_toList]; omega
      simp only [List.length_append, List.length_singleton]
      rw [List.drop_set, if_neg (by omega), show off + us.length - off = us.length by omega, list_take_set _ _ _ (by simp only [List.length_drop]; omega), g3]

/-! ### Lists of messages -/
/-- Each element is a message, one by one. -/
def Each (M : Value → List Int → Prop) : List Value → List (List Int) → Prop
  | [], [] => True
  | u :: us, x :: xs => M u x ∧ Each M us xs
  | _, _ => False

theorem Each.len {M : Value → List Int → Prop} : ∀ {us : List Value} {xs : List (List Int)}, Each M us xs → us.length = xs.length
  | [], [], _ => rfl
  | u :: us, x :: xs, h => by simp [h.2.len]
  | [], _ :: _, h => by cases h
  | _ :: _, [], h => by cases h
theorem Each.mono {M M' : Value → List Int → Prop} (hM : ∀ u x, M u x → M' u x) : ∀ {us : List Value} {xs : List (List Int)}, Each M us xs → Each M' us xs
  | [], [], _ => trivial
  | u :: us, x :: xs, h => ⟨hM _ _ h.1, h.2.mono hM⟩
  | [], _ :: _, h => by cases h
  | _ :: _, [], h => by cases h
theorem Each.append {M : Value → List Int → Prop} {ys : List Value} {zs : List (List Int)} (k : Each M ys zs) : ∀ {us : List Value} {xs : List (List Int)}, Each M us xs → Each M (us ++ ys) (xs ++ zs)
  | [], [], _ => k
  | u :: us, x :: xs, h => ⟨h.1, k.append h.2⟩
  | [], _ :: _, h => by cases h
  | _ :: _, [], h => by cases h
theorem Each.drop {M : Value → List Int → Prop} : ∀ (n : Nat) {us : List Value} {xs : List (List Int)}, Each M us xs → Each M (us.drop n) (xs.drop n)
  | 0, _, _, h => by simpa using h
  | n + 1, [], [], _ => trivial
  | n + 1, u :: us, x :: xs, h => by simpa using h.2.drop n
  | _ + 1, [], _ :: _, h => by cases h
  | _ + 1, _ :: _, [], h => by cases h
theorem Each.take {M : Value → List Int → Prop} : ∀ (n : Nat) {us : List Value} {xs : List (List Int)}, Each M us xs → Each M (us.take n) (xs.take n)
  | 0, _, _, _ => by simp [Each]
  | n + 1, [], [], _ => trivial
  | n + 1, u :: us, x :: xs, h => ⟨h.1, h.2.take n⟩
  | _ + 1, [], _ :: _, h => by cases h
  | _ + 1, _ :: _, [], h => by cases h
theorem Each.get {M : Value → List Int → Prop} : ∀ {us : List Value} {xs : List (List Int)}, Each M us xs → ∀ k (hu : k < us.length) (hx : k < xs.length), M us[k] xs[k]
  | u :: us, x :: xs, h, 0, _, _ => h.1
  | u :: us, x :: xs, h, k + 1, hu, hx => by simpa using h.2.get k (by simpa using hu) (by simpa using hx)
  | [], _, _, _, hu, _ => by simp at hu
  | _ :: _, [], h, _, _, _ => by cases h

/-- How many octets some messages have. -/
def sz : List (List Int) → Nat
  | [] => 0
  | x :: xs => x.length + sz xs
theorem sz_append (a b : List (List Int)) : sz (a ++ b) = sz a + sz b := by
  induction a with
  | nil => simp [sz]
  | cons x a ih => simp [sz, ih]; omega
theorem sz_take_drop (k : Nat) (a : List (List Int)) : sz (a.take k) + sz (a.drop k) = sz a := by
  rw [← sz_append, List.take_append_drop]

/-! ### What a call may touch -/
/-- Of what was there only blocks in T may have turned; what is in T' was in T, or is new. -/
structure Foot (T T' : Nat → Prop) (w w' : World) : Prop where
  os : w'.os = w.os
  tape : w'.tape = w.tape
  output : w'.output = w.output
  size : w.heap.size ≤ w'.heap.size
  block : ∀ k, k < w.heap.size → ¬ T k → w'.heap[k]? = w.heap[k]?
  moved : ∀ g, T' g → T g ∨ w.heap.size ≤ g
theorem Foot.refl (T : Nat → Prop) (w : World) : Foot T T w w := ⟨rfl, rfl, rfl, Nat.le_refl _, fun _ _ _ => rfl, fun _ h => .inl h⟩
theorem Foot.trans {T T1 T2 : Nat → Prop} {w w1 w2 : World} (h : Foot T T1 w w1) (k : Foot T1 T2 w1 w2) : Foot T T2 w w2 :=
  ⟨k.os.trans h.os, k.tape.trans h.tape, k.output.trans h.output, Nat.le_trans h.size k.size, fun i hi ht => by
    rw [k.block i (Nat.lt_of_lt_of_le hi h.size) (fun e => by rcases h.moved i e with e | e; exact ht e; omega)]
    exact h.block i hi ht, fun g hg => by
    rcases k.moved g hg with e | e
    · exact h.moved g e
    · exact .inr (Nat.le_trans h.size e)⟩
theorem Foot.of_below {T : Nat → Prop} {w w' : World} (h : Below w.heap.size w w') : Foot T T w w' := ⟨h.os, h.tape, h.output, h.size, fun k hk _ => h.block k hk, fun _ h => .inl h⟩
theorem Foot.below {T T' : Nat → Prop} {w w' : World} {B : Nat} (h : Foot T T' w w') (hT : ∀ g, T g → B ≤ g) (hB : B ≤ w.heap.size) : Below B w w' :=
  ⟨h.os, h.tape, h.output, h.size, fun k hk => h.block k (by omega) (fun e => by have := hT k e; omega)⟩
end Go.Proofs.YtldjglmelbkngaaGreat.Tape
