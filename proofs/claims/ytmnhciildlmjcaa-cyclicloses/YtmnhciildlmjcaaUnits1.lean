/- Rows of units in memory: what a slice of units holds, the first one, the others, one more behind it. -/
import Derived.Test.YtmnhciildlmjcaaCyc8
namespace Go.Proofs.Ytmnhciildlmjcaa.Tape
open Go.ChangeShapes Go.WideShapes Go.ChangeAt Go.RowKit
set_option linter.unusedVariables false

/-- Units, cell by cell. -/
def flat : List (Array Value) → List Value
  | [] => []
  | u :: us => u.toList ++ flat us
theorem flat_len : ∀ (us : List (Array Value)), (∀ u ∈ us, u.size = 8) → (flat us).length = us.length * 8
  | [], _ => rfl
  | u :: us, h => by
    have h1 := h u (by simp)
    have := flat_len us (fun x hx => h x (by simp [hx]))
    simp only [flat, List.length_append, List.length_cons, Array.length_toList]
    omega
theorem flat_append (us vs : List (Array Value)) : flat (us ++ vs) = flat us ++ flat vs := by
  induction us with
  | nil => rfl
  | cons u us ih => simp [flat, ih]

/-- A slice of units in memory: its elements. -/
def URow (w : World) (v : Value) (us : List (Array Value)) : Prop :=
  (∀ u ∈ us, u.size = 8 ∧ u.all (·.oneCell') = true) ∧
  ((v = .slice none 0 0 ∧ us = []) ∨
  ∃ g off cap cur, v = .slice (some ⟨g, off, none⟩) us.length cap ∧ w.heap[g]? = some (.cells cur 32 (0, 0)) ∧ us.length ≤ cap ∧ off + cap * 8 ≤ cur.size ∧ (cur.toList.drop off).take (us.length * 8) = flat us)

theorem URow.nil (w : World) : URow w (.slice none 0 0) [] := ⟨by simp, .inl ⟨rfl, rfl⟩⟩
theorem URow.eight {w : World} {v : Value} {us : List (Array Value)} (h : URow w v us) : ∀ u ∈ us, u.size = 8 := fun u hu => (h.1 u hu).1
theorem URow.type {w : World} {v : Value} {us : List (Array Value)} (h : URow w v us) : ∀ g, v.ownBlock = some g → ∃ cur, w.heap[g]? = some (.cells cur 32 (0, 0)) := by
  rintro g hg
  rcases h.2 with ⟨rfl, _⟩ | ⟨g', off, cap, cur, rfl, hh, _⟩
  · simp [Value.ownBlock] at hg
  · simp [Value.ownBlock] at hg
    subst hg
    exact ⟨cur, hh⟩
theorem URow.lt {w : World} {v : Value} {us : List (Array Value)} (h : URow w v us) : ∀ g, v.ownBlock = some g → g < w.heap.size := fun g hg => by
  obtain ⟨cur, hh⟩ := h.type g hg
  exact heap_lt hh
theorem URow.at_ {w w' : World} {v : Value} {us : List (Array Value)} (h : URow w v us) (hk : ∀ g, v.ownBlock = some g → w'.heap[g]? = w.heap[g]?) : URow w' v us := by
  refine ⟨h.1, ?_⟩
  rcases h.2 with h | ⟨g, off, cap, cur, rfl, hh, rest⟩
  · exact .inl h
  · exact .inr ⟨g, off, cap, cur, rfl, (hk g rfl).trans hh, rest⟩
theorem URow.below {w w' : World} {v : Value} {us : List (Array Value)} (h : URow w v us) (hb : Below w.heap.size w w') : URow w' v us := h.at_ fun g hg => hb.block g (h.lt g hg)
theorem URow.form {w : World} {v : Value} {us : List (Array Value)} (h : URow w v us) : ∃ ao cap, v = .slice ao us.length cap ∧ us.length ≤ cap := by
  rcases h.2 with ⟨rfl, rfl⟩ | ⟨g, off, cap, cur, rfl, _, hc, _⟩
  · exact ⟨none, 0, rfl, Nat.le_refl _⟩
  · exact ⟨_, cap, rfl, hc⟩
theorem URow.of_owns {w : World} {B n : Nat} {v : Value} {us : List (Array Value)} (h8 : ∀ u ∈ us, u.size = 8 ∧ u.all (·.oneCell') = true) (hn : us.length = n) (h : w.ownsRow B 32 8 v n (flat us)) : URow w v us := by
  refine ⟨h8, ?_⟩
  rcases h.2 with ⟨rfl, h0⟩ | ⟨g, cap, cur, rfl, _, hg, hc, _, hs, ht⟩
  · exact .inl ⟨rfl, List.eq_nil_of_length_eq_zero (by omega)⟩
  · subst hn
    exact .inr ⟨g, 0, cap, cur, rfl, hg, hc, by omega, by simpa using ht⟩

/-- The first one, as a whole. -/
theorem URow.head {w : World} {ao : Option Addr} {n cap : Nat} {u : Array Value} {us : List (Array Value)} (h : URow w (.slice ao n cap) (u :: us)) : ∃ g off, ao = some ⟨g, off, none⟩ ∧ (ldU (.pointer (some ⟨g, off, none⟩))).run Try.prog w = .ok (.agg u) w := by
  have h8 := h.eight u (by simp)
  rcases h.2 with ⟨_, h0⟩ | ⟨g, off, cap', cur, e, hh, h1, h2, h3⟩
  · cases h0
  · simp only [Value.slice.injEq] at e
    obtain ⟨rfl, rfl, rfl⟩ := e
    refine ⟨g, off, rfl, ?_⟩
    have hr := World.rangeAt_of_block (w := w) (b := g) hh off 8
    have hd : (cur.toList.drop off).take 8 = u.toList := by
      have := congrArg (List.take 8) h3
      rw [List.take_take, List.length_cons, Nat.min_eq_left (by omega)] at this
      rw [this, flat, List.take_append_of_le_length (by simp [h8]), List.take_of_length_le (by simp [h8])]
    have he : (cur.extract off (off + 8)).toList = (cur.toList.drop off).take 8 := by simp [List.extract]
    rw [he, hd] at hr
    have := run_loadAt_mid (P := Try.prog) w g off 32 u.toList _ hr Try.underlying32 rfl (by rw [info37]; simp [h8])
    show (Instr.loadAt 32 (.pointer (some ⟨g, off, none⟩))).run Try.prog w = .ok (.agg u) w
    simpa using this

/-- The others. -/
theorem URow.tail {w : World} {ao : Option Addr} {n cap : Nat} {u : Array Value} {us : List (Array Value)} (h : URow w (.slice ao n cap) (u :: us)) : URow w (.slice (if cap = 1 then ao else ao.map (·.add 8)) (n - 1) (cap - 1)) us := by
  have h8 := h.eight u (by simp)
  refine ⟨fun x hx => h.1 x (by simp [hx]), ?_⟩
  rcases h.2 with ⟨_, h0⟩ | ⟨g, off, cap', cur, e, hh, h1, h2, h3⟩
  · cases h0
  · simp only [Value.slice.injEq] at e
    obtain ⟨rfl, rfl, rfl⟩ := e
    simp only [List.length_cons] at h1 h3 ⊢
    right
    by_cases hc : cap = 1
    · subst hc
      have : us = [] := List.eq_nil_of_length_eq_zero (by omega)
      subst this
      exact ⟨g, off, 0, cur, by simp, hh, by simp, by omega, by simp [flat]⟩
    · refine ⟨g, off + 8, cap - 1, cur, by rw [if_neg hc]; simp [Addr.add_lit], hh, by omega, by omega, ?_⟩
      have := congrArg (List.drop 8) h3
      have e1 : List.drop 8 (flat (u :: us)) = flat us := by rw [flat, List.drop_append_of_le_length (by simp [h8]), List.drop_of_length_le (l := u.toList) (by simp [h8]), List.nil_append]
      rw [e1, List.drop_take, List.drop_drop] at this
      rw [← this]
      congr 1
      omega

theorem info37' : (Try.prog.info? 32).map (fun i => (i.zero, i.size, i.bytes)) = some (some (.agg #[.int .u8 0, .int .u8 0, .bool false, .bool false, .int .u8 0, .int .u8 0, .bool false, .slice none 0 0]), 8, 32) := by kernel_rfl

theorem split8 {α : Type} (l : List α) (n : Nat) : l = l.take n ++ (l.drop n).take 8 ++ l.drop (n + 8) := by
  rw [List.append_assoc, show l.drop (n + 8) = (l.drop n).drop 8 by rw [List.drop_drop], List.take_append_drop, List.take_append_drop]

/-- One more behind a row. -/
theorem urow_push {w : World} {ops : Array Oper} {rest : List Oper} {o : Oper} {a : Act} {Q : Exit → Act → World → Prop} (hgd : o.guard = none) (s x : Operand)
    (ho : o.op = .call { callee := .builtin .append, args := #[s, x], argTypes := #[57, 57] }) (v : Value) (us : List (Array Value)) (hs : a.eval s = v) (hrow : URow w v us)
    (ad : Addr) (u : Array Value) (c : Nat) (hx : a.eval x = .slice (some ad) 1 c) (hc : ∀ j y, u.toList[j]? = some y → w.cell? (ad.add j) = some y) (h8 : u.size = 8) (h1 : u.all (·.oneCell') = true) (hn : us.length ≤ 2000000)
    (h : ∀ v' w', URow w' v' (us ++ [u]) → w.grownBy w' v.ownBlock → (∀ g, v'.ownBlock = some g → v.ownBlock = some g ∨ w.heap.size ≤ g) → wpList Try.prog ops Q rest (a.put o.dst v') w') : wpList Try.prog ops Q (o :: rest) a w := by
  obtain ⟨i0, hi, hz0, hz1, hz2⟩ := info_parts info37'
  have hnl : u.toList.length = 1 * 8 := by simp [h8]
  have h1c : ∀ y ∈ u.toList, y.oneCell' = true := fun y hy => by
    rw [Array.all_eq_true'] at h1
    exact h1 y (by simpa using hy)
  have hall : ∀ y ∈ us ++ [u], y.size = 8 ∧ y.all (·.oneCell') = true := fun y hy => by
    rcases List.mem_append.1 hy with hy | hy
    · exact hrow.1 y hy
    · obtain rfl : y = u := by simpa using hy
      exact ⟨h8, h1⟩
  have hfl := flat_len us hrow.eight
  have hfu : flat us ++ u.toList = flat (us ++ [u]) := by rw [flat_append]; simp [flat]
  have hg : ∀ v' w', w'.ownsRow w.heap.size 32 8 v' (us.length + 1) (flat us ++ u.toList) → w.grownBy w' none → wpList Try.prog ops Q rest (a.put o.dst v') w' := fun v' w' hown hgr => by
    rw [hfu] at hown
    exact h v' w' (URow.of_owns hall (by simp) hown) ⟨hgr.os, hgr.tape, hgr.output, hgr.size, fun i hi _ => hgr.block i hi (by simp)⟩ (fun g hg => .inr (hown.lt g hg).1)
  have hrow' := hrow
  rcases hrow.2 with ⟨rfl, rfl⟩ | ⟨g, off, cap, cur, rfl, hh, g1, g2, g3⟩
  · refine wpList_append_grows w hgd s x 57 ho 32 i0 _ 8 32 Try.underlying57 hi hz0 hz1 hz2 rfl (by decide) none 0 0 [] hs (fun _ => ⟨rfl, rfl⟩) rfl (fun b hb => by cases hb) ad 1 c u.toList hx hnl hc h1c (by omega) (by unfold maxLen; omega) (by omega) ?_
    simpa [flat] using hg
  · have hcur : w.heap[g]? = some (.cells cur.toList.toArray 32 (0, 0)) := by simpa using hh
    have hdl : (cur.toList.drop off).length = cur.size - off := by simp
    refine wpList_append_arg w hgd s x 57 ho 32 i0 _ 8 32 Try.underlying57 hi hz0 hz1 hz2 rfl (by decide) g off us.length cap (flat us) hs hfl (fun j y hj => ?_) ad 1 c u.toList hx hnl hc h1c (fun hroom j hj => ?_) (by unfold maxLen; omega) (by omega) (fun hroom => ?_) (fun _ => hg)
    · have hlt : j < us.length * 8 := by rw [← hfl]; exact (List.getElem?_eq_some_iff.1 hj).1
      rw [← g3, List.getElem?_take, if_pos hlt, List.getElem?_drop] at hj
      rw [Lib.cell_of_heap hcur]
      simpa using hj
    · have hj8 : j < 8 := by simpa [h8] using hj
      refine ⟨?_, Lib.frozen_of_heap hcur _⟩
      rw [Lib.cell_of_heap hcur]
      simp only [List.getElem?_toArray]
      rw [List.getElem?_eq_getElem (by simp only [Array.length_toList]; omega)]
      rfl
    · have hpre : (cur.toList.take (off + us.length * 8)).length = off + us.length * 8 := by simp; omega
      have hsplit : cur.toList = cur.toList.take (off + us.length * 8) ++ (cur.toList.drop (off + us.length * 8)).take 8 ++ cur.toList.drop (off + us.length * 8 + 8) := split8 _ _
      have hset := heap_scu_same g 32 u.toList w (cur.toList.take (off + us.length * 8)) ((cur.toList.drop (off + us.length * 8)).take 8) (cur.toList.drop (off + us.length * 8 + 8)) (by rw [← hsplit]; exact hcur) (by simp [h8]; omega)
      rw [hpre] at hset
      refine h _ _ ⟨hall, .inr ⟨g, off, cap, _, by simp, hset, by simpa using hroom, ?_, ?_⟩⟩ (setCells_gb _ _ _ _) (fun g' hg' => .inl hg')
      · simp [h8]
        omega
      · have e1 : (cur.toList.take (off + us.length * 8)).drop off = flat us := by
          rw [List.drop_take, ← g3]
          congr 1
          omega
        simp only [List.length_append, List.length_singleton]
        rw [List.append_assoc, List.drop_append_of_le_length (by rw [hpre]; omega), e1, List.take_append, hfl, List.take_of_length_le (by rw [hfl]; omega), show (us.length + 1) * 8 - us.length * 8 = 8 by omega, List.take_append_of_le_length (by simp [h8]), List.take_of_length_le (by simp [h8]), hfu]
end Go.Proofs.Ytmnhciildlmjcaa.Tape
