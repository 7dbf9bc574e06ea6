/- A Hold in memory; the contracts of a line's add and take, of bytes.Clone. -/
import Derived.Test.YtldjglmelbkngaaGreatHold1
import Derived.Lib.LazyBuf
namespace Go.Proofs.YtldjglmelbkngaaGreat.Tape
open Go.ChangeShapes Go.WideShapes Go.ChangeAt Go.RowKit
set_option linter.unusedVariables false

/-- A message that a Hold keeps: its octets, in memory of its own. -/
def HMsg (w : World) (B : Nat) (u : Value) (xs : List Int) : Prop := w.ownsRow B 5 1 u xs.length (xs.map (.int .u8)) ∧ 3 ≤ xs.length ∧ xs.length ≤ 273 ∧ ∀ x ∈ xs, 0 ≤ x ∧ x ≤ 255

theorem HMsg.form {w : World} {B : Nat} {u : Value} {xs : List Int} (h : HMsg w B u xs) : ∃ m cap cur, u = .slice (some ⟨m, 0, none⟩) xs.length cap ∧ w.heap[m]? = some (.cells cur 5 (0, 0)) ∧ B ≤ m ∧ xs.length ≤ cap ∧ Reads w (some ⟨m, 0, none⟩) (xs.map (.int .u8)) := by
  obtain ⟨h1, h2, h3, h4⟩ := h
  have h1' := h1
  rcases h1.2 with ⟨_, h0⟩ | ⟨g, cap, cur, rfl, hB, hg, hc, _⟩
  · omega
  · exact ⟨g, cap, cur, rfl, hg, hB, hc, Reads.of_owns h1'⟩

theorem HMsg.at_ {w w' : World} {B : Nat} {u : Value} {xs : List Int} (h : HMsg w B u xs) (hk : ∀ g cur, B ≤ g → w.heap[g]? = some (.cells cur 5 (0, 0)) → w'.heap[g]? = w.heap[g]?) : HMsg w' B u xs := by
  obtain ⟨h1, h2⟩ := h
  refine ⟨⟨h1.1, ?_⟩, h2⟩
  rcases h1.2 with h' | ⟨g, cap, cur, hv, hB, hg, rest⟩
  · exact .inl h'
  · exact .inr ⟨g, cap, cur, hv, hB, (hk g cur hB hg).trans hg, rest⟩

/-- What a Hold has. -/
structure Hs where
  most : Int
  oct : Int
  first : Nat
  sent : List (List Int)
  next : List (List Int)

/-- What holds of a Hold at any time. -/
structure Hs.Fine (s : Hs) : Prop where
  most : s.most ≤ 1048576
  oct : s.oct ≤ 1099511627776
  first : s.first < 128
  win : s.sent.length ≤ 127
  room : s.sent.length = 0 ∧ s.next.length = 0 ∨ (s.sent.length + s.next.length : Int) ≤ s.most
  size : sz s.sent = 0 ∧ sz s.next = 0 ∨ (sz s.sent + sz s.next : Int) ≤ s.oct

/-- A Hold in memory: its block b, its rows. -/
structure HoldIn (w : World) (b B : Nat) (sv nv : Value) (s : Hs) : Prop where
  cells : w.heap[b]? = some (.cells #[.int .i64 s.most, .int .i64 s.oct, .int .u8 s.first, sv, .int .i64 (sz s.sent), nv, .int .i64 (sz s.next)] 99 (0, 0))
  sent : ∃ us, RowAt w sv us ∧ Each (HMsg w B) us s.sent
  next : ∃ us, RowAt w nv us ∧ Each (HMsg w B) us s.next
  apart : ∀ g, sv.ownBlock = some g → nv.ownBlock = some g → False
  bs : ∀ g, sv.ownBlock = some g → B ≤ g
  bn : ∀ g, nv.ownBlock = some g → B ≤ g
  fine : s.Fine

def own (b : Nat) (sv nv : Value) : Nat → Prop := fun g => g = b ∨ sv.ownBlock = some g ∨ nv.ownBlock = some g
/-- .. its blocks in T. -/
def HoldAt (w : World) (b B : Nat) (T : Nat → Prop) (s : Hs) : Prop := ∃ sv nv, T = own b sv nv ∧ HoldIn w b B sv nv s

theorem HoldIn.keep {w w' : World} {b B : Nat} {sv nv : Value} {s : Hs} (h : HoldIn w b B sv nv s) (hk : ∀ k, k = b ∨ B ≤ k → k < w.heap.size → w'.heap[k]? = w.heap[k]?) : HoldIn w' b B sv nv s := by
  obtain ⟨h1, ⟨us, h2, h3⟩, ⟨un, h4, h5⟩, h6, h7, h8, h9⟩ := h
  exact ⟨(hk b (.inl rfl) (heap_lt h1)).trans h1, ⟨us, h2.at_ fun g hg => hk g (.inr (h7 g hg)) (h2.lt g hg), h3.mono fun u x hm => hm.at_ fun g cur hB hg => hk g (.inr hB) (heap_lt hg)⟩,
    ⟨un, h4.at_ fun g hg => hk g (.inr (h8 g hg)) (h4.lt g hg), h5.mono fun u x hm => hm.at_ fun g cur hB hg => hk g (.inr hB) (heap_lt hg)⟩, h6, h7, h8, h9⟩
theorem HoldAt.keep {w w' : World} {b B : Nat} {T : Nat → Prop} {s : Hs} (h : HoldAt w b B T s) (hk : ∀ k, k = b ∨ B ≤ k → k < w.heap.size → w'.heap[k]? = w.heap[k]?) : HoldAt w' b B T s := by
  obtain ⟨sv, nv, e, h⟩ := h
  exact ⟨sv, nv, e, h.keep hk⟩
theorem HoldAt.below {w w' : World} {b B : Nat} {T : Nat → Prop} {s : Hs} (h : HoldAt w b B T s) (hb : Below w.heap.size w w') : HoldAt w' b B T s := h.keep fun k _ hk => hb.block k hk
theorem HoldAt.mine {w : World} {b B : Nat} {T : Nat → Prop} {s : Hs} (h : HoldAt w b B T s) : ∀ g, T g → (g = b ∨ B ≤ g) ∧ g < w.heap.size := by
  obtain ⟨sv, nv, rfl, h1, ⟨us, h2, h3⟩, ⟨un, h4, h5⟩, h6, h7, h8, h9⟩ := h
  rintro g (rfl | e | e)
  · exact ⟨.inl rfl, heap_lt h1⟩
  · exact ⟨.inr (h7 g e), h2.lt g e⟩
  · exact ⟨.inr (h8 g e), h4.lt g e⟩
theorem HoldAt.fine {w : World} {b B : Nat} {T : Nat → Prop} {s : Hs} (h : HoldAt w b B T s) : s.Fine := by
  obtain ⟨sv, nv, e, h⟩ := h
  exact h.fine

theorem hold_cells {w : World} {b : Nat} {c0 c1 c2 c3 c4 c5 c6 : Value} {t : TypeId} (h : w.heap[b]? = some (.cells #[c0, c1, c2, c3, c4, c5, c6] t (0, 0))) :
    (w.cell? ⟨b, 0, none⟩ = some c0 ∧ w.cell? ⟨b, 1, none⟩ = some c1 ∧ w.cell? ⟨b, 2, none⟩ = some c2 ∧ w.cell? ⟨b, 3, none⟩ = some c3 ∧ w.cell? ⟨b, 4, none⟩ = some c4 ∧ w.cell? ⟨b, 5, none⟩ = some c5 ∧ w.cell? ⟨b, 6, none⟩ = some c6) ∧
    ∀ k, w.frozen? ⟨b, k, none⟩ = false := by
  refine ⟨⟨?_, ?_, ?_, ?_, ?_, ?_, ?_⟩, Lib.frozen_of_heap h⟩ <;> rw [Lib.cell_of_heap h] <;> rfl

set_option maxRecDepth 100000 in
set_option maxHeartbeats 400000 in
theorem clone_any (g off n cap : Nat) (xs : List Int) (w : World) (hn : xs.length = n) (hl : n ≤ 1000) (h : Reads w (some ⟨g, off, none⟩) (xs.map (.int .u8))) :
    Calls Tryz.prog 109 #[.slice (some ⟨g, off, none⟩) n cap] w fun e w' => ∃ v, e = .returned v ∧ w'.ownsRow w.heap.size 5 1 v n (xs.map (.int .u8)) ∧ Below w.heap.size w w' := by
  have hb1 : Below w.heap.size w (w.alloc (.cells #[] 5)) := (Below.refl _ _).alloc (Nat.le_refl _) _
  have hown := owns_new (w := w) (base := w.heap.size) (Nat.le_refl _) [] 0 rfl (by unfold maxLen; omega)
  have h1 := h.below (Nat.le_refl _) hb1
  have hq := run_eql_slice_nil (P := Tryz.prog) w 30 5 (some ⟨g, off, none⟩) n cap Tryz.underlying30
  go_enter Tryz.func109, Tryz.ntmps109
  go_wp2_with (at_builtin; refine append_reads rfl _ _ rfl w.heap.size _ 0 [] rfl hown (some ⟨g, off, none⟩) n cap xs rfl hn h1 (fun h => by cases h) (by omega) (by simp) ?_; intro v' w2 hown2 hb2)
  rw [Nat.zero_add, List.nil_append] at hown2
  go_wp2
  go_ret
  exact ⟨_, rfl, hown2, hb1.trans hb2⟩

set_option maxRecDepth 100000 in
set_option maxHeartbeats 400000 in
theorem add_any (b k : Nat) (v : Value) (o : Int) (us : List Value) (ao : Option Addr) (n c : Nat) (w : World) (hv : w.cell? ⟨b, k, none⟩ = some v) (zv : w.frozen? ⟨b, k, none⟩ = false) (ho : w.cell? ⟨b, k + 1, none⟩ = some (.int .i64 o)) (zo : w.frozen? ⟨b, k + 1, none⟩ = false)
    (hrow : RowAt w v us) (hb : v.ownBlock ≠ some b) (h0 : 0 ≤ o) (h1 : o ≤ 2199023255552) (hn : n ≤ 1000) (hl : us.length ≤ 2000000) :
    Calls Tryz.prog 108 #[.pointer (some ⟨b, k, none⟩), .slice ao n c] w fun e w' => e = .returned (.tuple #[]) ∧ ∃ v' w1, RowAt w1 v' (us ++ [.slice ao n c]) ∧ w.grownBy w1 v.ownBlock ∧ (∀ g, v'.ownBlock = some g → v.ownBlock = some g ∨ w.heap.size ≤ g) ∧ w' = (w1.setCell ⟨b, k, none⟩ v').setCell ⟨b, k + 1, none⟩ (.int .i64 (o + n)) := by
  have hblt : b < w.heap.size := World.block_lt_of_cell? w _ hv
  have hrow1 : RowAt (w.alloc (.cells #[.slice ao n c] 30)) v us := hrow.at_ fun g hg => Below.heap_alloc _ _ _ (hrow.lt g hg)
  have hc1 : (w.alloc (.cells #[.slice ao n c] 30)).cell? ⟨w.heap.size, 0, none⟩ = some (.slice ao n c) := by rw [World.cell?_alloc_new]; rfl
  have hkeep : ∀ w1, (w.alloc (.cells #[.slice ao n c] 30)).grownBy w1 v.ownBlock → w1.heap[b]? = w.heap[b]? := fun w1 hg => (hg.block b (by simp; omega) (fun e => hb e.symm)).trans (Below.heap_alloc _ _ _ hblt)
  clear hrow
  go_enter Tryz.func108, Tryz.ntmps108
  go_wp2_with (at_builtin; refine row_push rfl _ _ rfl v us rfl hrow1 ⟨w.heap.size, 0, none⟩ (.slice ao n c) 1 rfl hc1 rfl hl ?_; intro v' w1 hr1 hg1 hm1; obtain ⟨ao', L', cap', rfl⟩ := hr1.form3; have hk := hkeep w1 hg1; have hv1 := (World.cell?_of_block (a := ⟨b, k, none⟩) hk).trans hv; have zv1 := (World.frozen?_of_block (a := ⟨b, k, none⟩) hk).trans zv; have ho1 := (World.cell?_of_block (a := ⟨b, k + 1, none⟩) hk).trans ho; have zo1 := (World.frozen?_of_block (a := ⟨b, k + 1, none⟩) hk).trans zo)
  go_wp2
  refine bodyPost_end (results_none rfl _ _ _) rfl ?_
  exact ⟨rfl, _, w1, hr1, (World.grownBy_alloc w _ _).trans hg1, fun g hg => (hm1 g hg).imp id (fun e => by simp at e; omega), rfl⟩

set_option maxRecDepth 100000 in
set_option maxHeartbeats 400000 in
theorem take_any (b k g off m n c N cap : Nat) (o : Int) (us : List Value) (w : World) (hv : w.cell? ⟨b, k, none⟩ = some (.slice (some ⟨g, off, none⟩) N cap)) (zv : w.frozen? ⟨b, k, none⟩ = false) (ho : w.cell? ⟨b, k + 1, none⟩ = some (.int .i64 o)) (zo : w.frozen? ⟨b, k + 1, none⟩ = false)
    (hrow : RowAt w (.slice (some ⟨g, off, none⟩) N cap) (.slice (some ⟨m, 0, none⟩) n c :: us)) (hb : g ≠ b) (h0 : (n : Int) ≤ o) (h1 : o ≤ 2199023255552) :
    Calls Tryz.prog 147 #[.pointer (some ⟨b, k, none⟩)] w fun e w' => e = .returned (.slice (some ⟨m, 0, none⟩) n c) ∧ ∃ v', RowAt (w.setCell ⟨g, off, none⟩ (.slice none 0 0)) v' us ∧ v'.ownBlock = some g ∧ w' = ((w.setCell ⟨g, off, none⟩ (.slice none 0 0)).setCell ⟨b, k, none⟩ v').setCell ⟨b, k + 1, none⟩ (.int .i64 (o - n)) := by
  obtain ⟨hN, hcap, -, hr⟩ := hrow.cell
  obtain ⟨g', off', e, hc0⟩ := hr 0 _ rfl
  simp only [Option.some.injEq, Addr.mk.injEq, and_true] at e
  obtain ⟨rfl, rfl⟩ := e
  rw [Nat.add_zero] at hc0
  have z0 := (hrow.frozen off).1
  have hpart := (hrow.head (.slice none 0 0)).part 1 N cap (by simp at hN; omega) (by omega) hcap (Nat.le_refl _)
  rw [List.take_of_length_le (by simp at hN ⊢; omega), List.drop_succ_cons, List.drop_zero] at hpart
  simp only [List.length_cons] at hN
  have hN1 : 1 ≤ N := by omega
  clear hrow hr hN
  by_cases hc1 : cap = 1
  · subst hc1
    obtain rfl : N = 1 := by omega
    rw [if_pos rfl] at hpart
    go_enter Tryz.func147, Tryz.ntmps147
    go_wp2
    go_ret
    exact ⟨rfl, _, hpart, rfl, rfl⟩
  · rw [if_neg hc1] at hpart
    simp only [Option.map_some, Addr.add_lit] at hpart
    go_enter Tryz.func147, Tryz.ntmps147
    go_wp2
    go_ret
    exact ⟨rfl, _, hpart, rfl, rfl⟩
end Go.Proofs.YtldjglmelbkngaaGreat.Tape
