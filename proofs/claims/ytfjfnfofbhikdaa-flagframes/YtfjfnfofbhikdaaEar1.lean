/- An ear, as a plain function: what is heard of bits; and what memory it touches. No walk here. -/
import Derived.Test.YtfjfnfofbhikdaaFlag3
namespace Go.Proofs.Ytfjfnfofbhikdaa.Tape
open Go.ChangeShapes Go.WideShapes Go.ChangeAt Go.RowKit

/-- What an ear knows: is it lost, what it kept, how many bits it counted, how many ones stand at the end (seven: or more). -/
structure Ear where
  lost : Bool
  kept : List Bool
  cnt : Nat
  run : Nat

def nx (r : Nat) (b : Bool) : Nat := if b then min (r + 1) 7 else 0
/-- What is heard when a flag ends k. -/
def hd (k : List Bool) : Option (Nat × List Int) := if k.length ≤ 8 then none else if (jdg (k.take (k.length - 8))).2 = 0 then some (0, (jdg (k.take (k.length - 8))).1) else some (1, [])
def eat (s : Ear) (b : Bool) : Ear × Option (Nat × List Int) :=
  if s.lost = true then
    if b = false ∧ s.run = 6 then (⟨false, s.kept, s.cnt, 0⟩, none)
    else if s.cnt + 1 < 128 then (⟨true, s.kept, s.cnt + 1, nx s.run b⟩, none)
    else (⟨true, s.kept, 0, nx s.run b⟩, some (2, []))
  else if b = false ∧ s.run = 6 then (⟨false, [], s.cnt, 0⟩, hd (s.kept ++ [b]))
  else if nx s.run b = 7 ∨ (b = false ∧ 2687 < s.kept.length + 1) then (⟨true, [], 0, nx s.run b⟩, none)
  else (⟨false, s.kept ++ [b], s.cnt, nx s.run b⟩, none)
def after (s : Ear) : List Bool → Ear
  | [] => s
  | b :: l => after (eat s b).1 l
def eats (s : Ear) : List Bool → List (Nat × List Int)
  | [] => []
  | b :: l => (eat s b).2.toList ++ eats (eat s b).1 l
def ear0 : Ear := ⟨true, [], 0, 0⟩

theorem after_append (s : Ear) (a b : List Bool) : after s (a ++ b) = after (after s a) b := by
  induction a generalizing s with
  | nil => rfl
  | cons x a ih => simp [after, ih]
theorem eats_append (s : Ear) (a b : List Bool) : eats s (a ++ b) = eats s a ++ eats (after s a) b := by
  induction a generalizing s with
  | nil => rfl
  | cons x a ih => simp [eats, after, ih]

theorem eat_flag {s : Ear} {b : Bool} (hl : s.lost = true) (h : b = false ∧ s.run = 6) : eat s b = (⟨false, s.kept, s.cnt, 0⟩, none) := by unfold eat; rw [if_pos hl, if_pos h]
theorem eat_cnt {s : Ear} {b : Bool} (hl : s.lost = true) (h : ¬ (b = false ∧ s.run = 6)) (hc : s.cnt + 1 < 128) : eat s b = (⟨true, s.kept, s.cnt + 1, nx s.run b⟩, none) := by unfold eat; rw [if_pos hl, if_neg h, if_pos hc]
theorem eat_block {s : Ear} {b : Bool} (hl : s.lost = true) (h : ¬ (b = false ∧ s.run = 6)) (hc : ¬ s.cnt + 1 < 128) : eat s b = (⟨true, s.kept, 0, nx s.run b⟩, some (2, [])) := by unfold eat; rw [if_pos hl, if_neg h, if_neg hc]
theorem eat_end {s : Ear} {b : Bool} (hl : s.lost = false) (h : b = false ∧ s.run = 6) : eat s b = (⟨false, [], s.cnt, 0⟩, hd (s.kept ++ [b])) := by unfold eat; rw [if_neg (by simp [hl]), if_pos h]
theorem eat_lose {s : Ear} {b : Bool} (hl : s.lost = false) (h : ¬ (b = false ∧ s.run = 6)) (hc : nx s.run b = 7 ∨ (b = false ∧ 2687 < s.kept.length + 1)) : eat s b = (⟨true, [], 0, nx s.run b⟩, none) := by unfold eat; rw [if_neg (by simp [hl]), if_neg h, if_pos hc]
theorem eat_keep {s : Ear} {b : Bool} (hl : s.lost = false) (h : ¬ (b = false ∧ s.run = 6)) (hc : ¬ (nx s.run b = 7 ∨ (b = false ∧ 2687 < s.kept.length + 1))) : eat s b = (⟨false, s.kept ++ [b], s.cnt, nx s.run b⟩, none) := by unfold eat; rw [if_neg (by simp [hl]), if_neg h, if_neg hc]

/-- What holds of an ear at any time. -/
structure Fine (s : Ear) : Prop where
  run : s.run ≤ 7
  cnt : s.cnt < 128
  kept : s.kept.length ≤ 2687 + s.run
  lost : s.lost = true → s.kept = []
theorem fine0 : Fine ear0 := ⟨by decide, by decide, by decide, fun _ => rfl⟩
theorem nx_le (r : Nat) (b : Bool) : nx r b ≤ 7 := by unfold nx; split <;> omega
theorem Fine.eat {s : Ear} (h : Fine s) (b : Bool) : Fine (eat s b).1 := by
  obtain ⟨h1, h2, h3, h4⟩ := h
  have hn := nx_le s.run b
  cases hl : s.lost
  · by_cases hf : b = false ∧ s.run = 6
    · rw [eat_end hl hf]; exact ⟨by simp, h2, by simp, by simp⟩
    · by_cases hc : nx s.run b = 7 ∨ (b = false ∧ 2687 < s.kept.length + 1)
      · rw [eat_lose hl hf hc]; exact ⟨hn, by simp, by simp, by simp⟩
      · rw [eat_keep hl hf hc]
        refine ⟨hn, h2, ?_, by simp⟩
        simp only [List.length_append, List.length_singleton]
        cases b
        · simp at hc; omega
        · simp [nx] at hc ⊢; omega
  · by_cases hf : b = false ∧ s.run = 6
    · rw [eat_flag hl hf]; exact ⟨by simp, h2, by simp [h4 hl], by simp⟩
    · by_cases hc : s.cnt + 1 < 128
      · rw [eat_cnt hl hf hc]; exact ⟨hn, hc, by simp [h4 hl], fun _ => h4 hl⟩
      · rw [eat_block hl hf hc]; exact ⟨hn, by simp, by simp [h4 hl], fun _ => h4 hl⟩
theorem Fine.after {s : Ear} (h : Fine s) (l : List Bool) : Fine (after s l) := by
  induction l generalizing s with
  | nil => exact h
  | cons b l ih => exact ih (h.eat b)

/-! ### Memory -/
/-- Of what was there only block b and v's own row may have turned. -/
structure Fr (b : Nat) (v : Value) (w w' : World) : Prop where
  os : w'.os = w.os
  tape : w'.tape = w.tape
  output : w'.output = w.output
  size : w.heap.size ≤ w'.heap.size
  block : ∀ k, k < w.heap.size → k ≠ b → v.ownBlock ≠ some k → w'.heap[k]? = w.heap[k]?
/-- v' lies where v lay, or in new memory. -/
def Moved (w : World) (v v' : Value) : Prop := ∀ g, v'.ownBlock = some g → v.ownBlock = some g ∨ w.heap.size ≤ g
theorem Moved.refl (w : World) (v : Value) : Moved w v v := fun _ h => .inl h
theorem Moved.trans {w w' : World} {u v x : Value} (h : Moved w u v) (hs : w.heap.size ≤ w'.heap.size) (k : Moved w' v x) : Moved w u x := fun g hg => by
  rcases k g hg with hg | hg
  · exact h g hg
  · exact .inr (Nat.le_trans hs hg)
theorem Fr.refl (b : Nat) (v : Value) (w : World) : Fr b v w w := ⟨rfl, rfl, rfl, Nat.le_refl _, fun _ _ _ _ => rfl⟩
theorem Fr.trans {b : Nat} {u v : Value} {w0 w1 w2 : World} (h : Fr b u w0 w1) (hm : Moved w0 u v) (k : Fr b v w1 w2) : Fr b u w0 w2 :=
  ⟨k.os.trans h.os, k.tape.trans h.tape, k.output.trans h.output, Nat.le_trans h.size k.size, fun g hg hb hu => by
    rw [k.block g (Nat.lt_of_lt_of_le hg h.size) hb (fun e => by rcases hm g e with e | e; exact hu e; omega)]
    exact h.block g hg hb hu⟩
theorem Fr.of_b {b : Nat} {v : Value} {w w' : World} (h : w.grownBy w' (some b)) : Fr b v w w' := ⟨h.os, h.tape, h.output, h.size, fun k hk hb _ => h.block k hk (fun e => hb (by simpa using e))⟩
theorem Fr.of_v {b : Nat} {v : Value} {w w' : World} (h : w.grownBy w' v.ownBlock) : Fr b v w w' := ⟨h.os, h.tape, h.output, h.size, fun k hk _ hv => h.block k hk (fun e => hv e.symm)⟩
theorem Fr.below {B b : Nat} {v : Value} {w w' : World} (h : Fr b v w w') (hb : B ≤ b) (hv : ∀ k, v.ownBlock = some k → B ≤ k) (hB : B ≤ w.heap.size) : Below B w w' :=
  ⟨h.os, h.tape, h.output, h.size, fun k hk => h.block k (by omega) (by omega) (fun e => by have := hv k e; omega)⟩
theorem Fr.of_below {b : Nat} {v : Value} {w w' : World} (h : Below w.heap.size w w') : Fr b v w w' := ⟨h.os, h.tape, h.output, h.size, fun k hk _ _ => h.block k hk⟩

/-- A slice's memory is there, and none of the ear's. -/
def Away (w : World) (b : Nat) (v : Value) (ao : Option Addr) : Prop := ∀ x, ao = some x → x.block < w.heap.size ∧ x.block ≠ b ∧ v.ownBlock ≠ some x.block
theorem Away.none (w : World) (b : Nat) (v : Value) : Away w b v Option.none := fun x h => by cases h
theorem Away.on {w w' : World} {b : Nat} {v v' : Value} {ao : Option Addr} (h : Away w b v ao) (hs : w.heap.size ≤ w'.heap.size) (hm : Moved w v v') : Away w' b v' ao := fun x hx => by
  obtain ⟨h1, h2, h3⟩ := h x hx
  exact ⟨by omega, h2, fun e => by rcases hm _ e with e | e; exact h3 e; omega⟩
theorem Away.reads {w w' : World} {b : Nat} {v : Value} {ao : Option Addr} {vs : List Value} (h : Away w b v ao) (hf : Fr b v w w') (hr : Reads w ao vs) : Reads w' ao vs := fun k u hk => by
  obtain ⟨g, off, e, hc⟩ := hr k u hk
  obtain ⟨h1, h2, h3⟩ := h _ e
  exact ⟨g, off, e, (World.cell?_of_block (a := ⟨g, off + k, Option.none⟩) (hf.block g h1 h2 h3)).trans hc⟩

theorem owns_far {w w' : World} {base : Nat} {e : TypeId} {s : Nat} {v : Value} {n : Nat} {vs : List Value} (h : w.ownsRow base e s v n vs) (hk : ∀ g, v.ownBlock = some g → w'.heap[g]? = w.heap[g]?) : w'.ownsRow base e s v n vs := by
  refine ⟨h.1, ?_⟩
  rcases h.2 with h' | ⟨g, cap, cur, hv, hB, hg, rest⟩
  · exact .inl h'
  · exact .inr ⟨g, cap, cur, hv, hB, by rw [hk g (by rw [hv]; rfl)]; exact hg, rest⟩

theorem gb_set {w : World} {b k : Nat} (u : Value) : w.grownBy (w.setCell ⟨b, k, none⟩ u) (some b) :=
  ⟨rfl, rfl, rfl, by simp [World.setCell], fun i _ hi => Below.heap_setCell _ _ _ _ (fun e => hi (by rw [e]))⟩
theorem gb_alloc {w w' : World} {r : Option Nat} (h : w.grownBy w' r) (o : Obj) : w.grownBy (w'.alloc o) r := h.trans (World.grownBy_alloc w' o r)
theorem gb_below {w w' w2 : World} {r : Option Nat} (h : w.grownBy w' r) (k : Below w'.heap.size w' w2) : w.grownBy w2 r :=
  h.trans ⟨k.os, k.tape, k.output, k.size, fun i hi _ => k.block i hi⟩
theorem heap_more {w : World} {b : Nat} {x : Obj} (h : w.heap[b]? = some x) (o : Obj) : (w.alloc o).heap[b]? = some x := by rw [Below.heap_alloc _ _ _ (Array.getElem?_eq_some_iff.1 h).1]; exact h
theorem heap_lt {w : World} {b : Nat} {x : Obj} (h : w.heap[b]? = some x) : b < w.heap.size := (Array.getElem?_eq_some_iff.1 h).1
theorem ear_set0 {w : World} {b : Nat} {f v c r : Value} {t : TypeId} (h : w.heap[b]? = some (.cells #[f, v, c, r] t (0, 0))) (u : Value) : (w.setCell ⟨b, 0, none⟩ u).heap[b]? = some (.cells #[u, v, c, r] t (0, 0)) := row_set (cs := [f, v, c, r]) h 0 u
theorem ear_set1 {w : World} {b : Nat} {f v c r : Value} {t : TypeId} (h : w.heap[b]? = some (.cells #[f, v, c, r] t (0, 0))) (u : Value) : (w.setCell ⟨b, 1, none⟩ u).heap[b]? = some (.cells #[f, u, c, r] t (0, 0)) := row_set (cs := [f, v, c, r]) h 1 u
theorem ear_set2 {w : World} {b : Nat} {f v c r : Value} {t : TypeId} (h : w.heap[b]? = some (.cells #[f, v, c, r] t (0, 0))) (u : Value) : (w.setCell ⟨b, 2, none⟩ u).heap[b]? = some (.cells #[f, v, u, r] t (0, 0)) := row_set (cs := [f, v, c, r]) h 2 u
theorem ear_set3 {w : World} {b : Nat} {f v c r : Value} {t : TypeId} (h : w.heap[b]? = some (.cells #[f, v, c, r] t (0, 0))) (u : Value) : (w.setCell ⟨b, 3, none⟩ u).heap[b]? = some (.cells #[f, v, c, u] t (0, 0)) := row_set (cs := [f, v, c, r]) h 3 u
theorem ear_cells {w : World} {b : Nat} {f v c r : Value} {t : TypeId} (h : w.heap[b]? = some (.cells #[f, v, c, r] t (0, 0))) :
    (w.cell? ⟨b, 0, none⟩ = some f ∧ w.cell? ⟨b, 1, none⟩ = some v ∧ w.cell? ⟨b, 2, none⟩ = some c ∧ w.cell? ⟨b, 3, none⟩ = some r) ∧
    (w.frozen? ⟨b, 0, none⟩ = false ∧ w.frozen? ⟨b, 1, none⟩ = false ∧ w.frozen? ⟨b, 2, none⟩ = false ∧ w.frozen? ⟨b, 3, none⟩ = false) := by
  refine ⟨⟨?_, ?_, ?_, ?_⟩, Lib.frozen_of_heap h 0, Lib.frozen_of_heap h 1, Lib.frozen_of_heap h 2, Lib.frozen_of_heap h 3⟩ <;> rw [Lib.cell_of_heap h] <;> rfl

theorem gb_out {w : World} {H : Nat} (a c : Value) : w.grownBy ((w.setCell ⟨H, 0, none⟩ a).setCell ⟨H, 1, none⟩ c) (some H) := (gb_set _).trans (gb_set _)
/-- What is written into a block that was not there does not count. -/
theorem gb_new {w w2 X : World} {r : Option Nat} {H : Nat} (h : w.grownBy w2 r) (k : w2.grownBy X (some H)) (hH : w.heap.size ≤ H) : w.grownBy X r :=
  ⟨k.os.trans h.os, k.tape.trans h.tape, k.output.trans h.output, Nat.le_trans h.size k.size, fun i hi hne => (k.block i (Nat.lt_of_lt_of_le hi h.size) (fun e => by simp at e; omega)).trans (h.block i hi hne)⟩
theorem fr_new {b : Nat} {v : Value} {w w2 X : World} {H : Nat} (h : Fr b v w w2) (k : w2.grownBy X (some H)) (hH : w.heap.size ≤ H) : Fr b v w X :=
  ⟨k.os.trans h.os, k.tape.trans h.tape, k.output.trans h.output, Nat.le_trans h.size k.size, fun i hi hb hv => (k.block i (Nat.lt_of_lt_of_le hi h.size) (fun e => by simp at e; omega)).trans (h.block i hi hb hv)⟩
theorem reads_gb {w X : World} {H B : Nat} {ao : Option Addr} {vs : List Value} (hl : Lies w B ao) (hH : H < B) (k : w.grownBy X (some H)) (hr : Reads w ao vs) : Reads X ao vs := fun j u hj => by
  obtain ⟨g, off, e, hc⟩ := hr j u hj
  obtain ⟨h1, h2⟩ := hl _ e
  exact ⟨g, off, e, (World.cell?_of_block (a := ⟨g, off + j, none⟩) (k.block g h2 (fun e => by simp at e h1; omega))).trans hc⟩
theorem owns_empty {w : World} {B n cap g : Nat} {e : TypeId} {xs : List Value} (h : w.ownsRow B e 1 (.slice (some ⟨g, 0, none⟩) n cap) n xs) : w.ownsRow B e 1 (.slice (some ⟨g, 0, none⟩) 0 cap) 0 [] := by
  rcases h.2 with ⟨hv, _⟩ | ⟨g', cap', cur, hv, hB, hg, _, hm, hs, _⟩
  · cases hv
  · simp only [Value.slice.injEq, Option.some.injEq, Addr.mk.injEq, and_true, true_and] at hv
    obtain ⟨rfl, rfl⟩ := hv
    exact ⟨by simp, .inr ⟨g, cap, cur, rfl, hB, hg, Nat.zero_le _, hm, hs, by simp⟩⟩

/-- What an ear answers to a bit. -/
def Told (w w' : World) (b : Nat) (v : Value) (o : Option (Nat × List Int)) (e : Ending) : Prop :=
  ∃ vo m ca, e = .returned (.tuple #[.agg #[.int .u8 (o.getD (0, [])).1, .slice vo m ca], .bool o.isSome]) ∧ (o.getD (0, [])).2.length = m ∧ m ≤ ca ∧ Reads w' vo ((o.getD (0, [])).2.map (.int .u8)) ∧ Lies w' w.heap.size vo ∧ Away w' b v vo ∧ (vo = none → ca = 0)
theorem Told.plain {w w' : World} {b : Nat} {v : Value} {o : Option (Nat × List Int)} (k : Nat) (d : Bool) (h : o.getD (0, []) = (k, [])) (hd : o.isSome = d) : Told w w' b v o (.returned (.tuple #[.agg #[.int .u8 k, .slice none 0 0], .bool d])) :=
  ⟨none, 0, 0, by rw [h, hd], by rw [h]; rfl, Nat.le_refl _, by rw [h]; exact Reads.nil _ _, Lies.none _ _, Away.none _ _ _, fun _ => rfl⟩

/-- An ear in memory: its block b, its row v. -/
structure EarAt (w : World) (B b : Nat) (v : Value) (s : Ear) : Prop where
  base : B ≤ b
  cells : w.heap[b]? = some (.cells #[.bool (!s.lost), v, .int .i64 s.cnt, .int .i64 s.run] 48 (0, 0))
  row : w.ownsRow B 4 1 v s.kept.length (s.kept.map .bool)
  far : v.ownBlock ≠ some b
  fine : Fine s
theorem EarAt.lt {w : World} {B b : Nat} {v : Value} {s : Ear} (h : EarAt w B b v s) : b < w.heap.size := heap_lt h.cells
theorem EarAt.below {w w' : World} {B b : Nat} {v : Value} {s : Ear} (h : EarAt w B b v s) (hb : Below w.heap.size w w') : EarAt w' B b v s :=
  ⟨h.base, (hb.block b h.lt).trans h.cells, owns_far h.row (fun g hg => hb.block g (h.row.lt g hg).2), h.far, h.fine⟩
end Go.Proofs.Ytfjfnfofbhikdaa.Tape
