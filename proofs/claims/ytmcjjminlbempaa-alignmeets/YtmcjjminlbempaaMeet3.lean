/- AlignMeets' beginning in memory: the setup, the two arrays of pointers. -/
import Derived.Test.YtmcjjminlbempaaMeet2
import Derived.Deep.MidRow
namespace Go.Proofs.Ytmcjjminlbempaa.Tape
open Go.ChangeShapes Go.WideShapes Go.ChangeAt Go.RowKit
set_option linter.unusedVariables false

/-- A setup that is loaded whole, under a name of its own. -/
def ldSt (v : Value) : Sem Value := Instr.loadAt 26 v
theorem ldSt_def (v : Value) : Instr.loadAt 26 v = ldSt v := rfl
theorem infoSt : (Try.prog.info? 26).map (·.size) = some 13 := by kernel_rfl
theorem range_st {w : World} {B : Nat} {cs : Array Value} {t : TypeId} (h : w.heap[B]? = some (.cells cs t (0, 0))) : w.rangeAt B 0 cs.toList := by
  have := World.rangeAt_of_block h 0 cs.size
  simpa using this
theorem ld_setup {w : World} {B : Nat} {cs : Array Value} (h : w.heap[B]? = some (.cells cs 26 (0, 0))) (hs : cs.size = 13) : (ldSt (.pointer (some ⟨B, 0, none⟩))).run Try.prog w = .ok (.agg cs) w := by
  show (Instr.loadAt 26 (.pointer (some ⟨B, 0, none⟩))).run Try.prog w = .ok (.agg cs) w
  have := run_loadAt_mid (P := Try.prog) w B 0 26 cs.toList _ (range_st h) Try.underlying26 rfl (by rw [infoSt]; simp [hs])
  simpa using this

/-- The law's setup. -/
def mS : Array Value := #[.bool false, .int .i64 8, .int .i64 300, .int .i64 16, .int .i64 600, .int .i64 30, .int .i64 999, .int .i64 900, .int .i64 900, .int .i64 50, .int .i64 5, .int .i64 9, .int .i64 9]

theorem alm_any (c : Nat) (w : World) (hc : ClockAt w c (List.replicate 8 0)) :
    Calls Try.prog 10 #[.agg mS, .pointer (some ⟨c, 0, none⟩)] w
      fun e w' => ∃ b, e = .returned (.pointer (some ⟨b, 0, none⟩)) ∧ w.heap.size ≤ b ∧ AlignAt w' b c (idA false false) ∧ Below w.heap.size w w' :=
  alnew_any c false 8 300 16 600 mT (List.replicate 8 0) w hc mT_ok

/-- The setup's block, the arrays' blocks. -/
structure Ini (w w' : World) (sb cb ab : Nat) (u0 u1 v0 v1 : Value) : Prop where
  low : Below w.heap.size w w'
  h0 : w.heap.size ≤ sb
  h1 : sb < cb
  h2 : cb < ab
  lt : ab < w'.heap.size
  st : w'.heap[sb]? = some (.cells mS 26 (0, 0))
  cc : w'.heap[cb]? = some (two 48 u0 u1)
  aa : w'.heap[ab]? = some (two 49 v0 v1)

section
variable {w w' w2 : World} {sb cb ab : Nat} {u0 u1 v0 v1 : Value}
theorem Ini.same (h : Ini w w' sb cb ab u0 u1 v0 v1) (hb : Below w'.heap.size w' w2) : Ini w w2 sb cb ab u0 u1 v0 v1 :=
  ⟨h.low.trans (hb.mono h.low.size), h.h0, h.h1, h.h2, Nat.lt_of_lt_of_le h.lt hb.size, (hb.block _ (heap_lt h.st)).trans h.st, (hb.block _ (heap_lt h.cc)).trans h.cc, (hb.block _ (heap_lt h.aa)).trans h.aa⟩
theorem Ini.putc (h : Ini w w' sb cb ab u0 u1 v0 v1) (k : Nat) (v x0 x1 : Value) (e : [u0, u1].set k v = [x0, x1]) : Ini w (w'.setCell ⟨cb, k, none⟩ v) sb cb ab x0 x1 v0 v1 := by
  have a1 := h.h1
  have a2 := h.h2
  have a0 := h.h0
  refine ⟨h.low.setCell (show w.heap.size ≤ cb by omega) v, h.h0, h.h1, h.h2, by simpa [World.setCell] using h.lt, (Below.heap_setCell _ _ _ _ (show sb ≠ cb by omega)).trans h.st, ?_, (Below.heap_setCell _ _ _ _ (show ab ≠ cb by omega)).trans h.aa⟩
  unfold two
  rw [← e]
  exact row_set h.cc k v
theorem Ini.puta (h : Ini w w' sb cb ab u0 u1 v0 v1) (k : Nat) (v x0 x1 : Value) (e : [v0, v1].set k v = [x0, x1]) : Ini w (w'.setCell ⟨ab, k, none⟩ v) sb cb ab u0 u1 x0 x1 := by
  have a1 := h.h1
  have a2 := h.h2
  have a0 := h.h0
  refine ⟨h.low.setCell (show w.heap.size ≤ ab by omega) v, h.h0, h.h1, h.h2, by simpa [World.setCell] using h.lt, (Below.heap_setCell _ _ _ _ (show sb ≠ ab by omega)).trans h.st, (Below.heap_setCell _ _ _ _ (show cb ≠ ab by omega)).trans h.cc, ?_⟩
  unfold two
  rw [← e]
  exact row_set h.aa k v
/-- A new clock, told to the array. -/
theorem Ini.clock (h : Ini w w' sb cb ab u0 u1 v0 v1) (k c : Nat) (hc : c = w'.heap.size) (x0 x1 : Value) (e : [u0, u1].set k (pt c) = [x0, x1]) :
    Ini w ((w'.setCell ⟨cb, k, none⟩ (pt c)).alloc (.cells #[.int .i64 0, .int .i64 0, .int .i64 0, .int .i64 0, .int .i64 0, .int .i64 0, .int .i64 0, .int .i64 0] 30)) sb cb ab x0 x1 v0 v1 ∧
    ClockAt ((w'.setCell ⟨cb, k, none⟩ (pt c)).alloc (.cells #[.int .i64 0, .int .i64 0, .int .i64 0, .int .i64 0, .int .i64 0, .int .i64 0, .int .i64 0, .int .i64 0] 30)) c (List.replicate 8 0) ∧
    ((w'.setCell ⟨cb, k, none⟩ (pt c)).alloc (.cells #[.int .i64 0, .int .i64 0, .int .i64 0, .int .i64 0, .int .i64 0, .int .i64 0, .int .i64 0, .int .i64 0] 30)).heap.size = c + 1 := by
  subst hc
  refine ⟨(h.putc k _ x0 x1 e).same ((Below.refl _ _).alloc (Nat.le_refl _) _), ?_, by simp [World.setCell]⟩
  have hn : ClockAt ((w'.setCell ⟨cb, k, none⟩ (pt w'.heap.size)).alloc (.cells #[.int .i64 0, .int .i64 0, .int .i64 0, .int .i64 0, .int .i64 0, .int .i64 0, .int .i64 0, .int .i64 0] 30)) (w'.setCell ⟨cb, k, none⟩ (pt w'.heap.size)).heap.size (List.replicate 8 0) := clock_new _
  rwa [show (w'.setCell ⟨cb, k, none⟩ (pt w'.heap.size)).heap.size = w'.heap.size by simp [World.setCell]] at hn
end

theorem Ini.fr {w w' w2 : World} {sb cb ab b c : Nat} {u0 u1 v0 v1 : Value} (h : Ini w w' sb cb ab u0 u1 v0 v1) (hf : Fr b c w' w2) (hb : ab < b) (hc : ab < c) : Ini w w2 sb cb ab u0 u1 v0 v1 := by
  obtain ⟨a, a0, a1, a2, a3, a4, a5, a6⟩ := h
  exact ⟨a.trans (hf.below (by omega) (by omega) a.size), a0, a1, a2, Nat.lt_of_lt_of_le a3 hf.size, (hf.block _ (heap_lt a4) (by omega) (by omega)).trans a4, (hf.block _ (heap_lt a5) (by omega) (by omega)).trans a5, (hf.block _ (heap_lt a6) (by omega) (by omega)).trans a6⟩

theorem id_hurry (o : Bool) : (idA false false).hurry o = idA o false := by cases o <;> rfl

/-- The two rows are made. -/
theorem Ini.all {w w' : World} {sb cb ab c0 b0 c1 b1 : Nat} {A0 A1 : Al} (h : Ini w w' sb cb ab (pt c0) (pt c1) (pt b0) (pt b1)) (k1 : ab < c0) (k2 : c0 < b0) (k3 : b0 < c1) (k4 : c1 < b1) (h0 : AlignAt w' b0 c0 A0) (h1 : AlignAt w' b1 c1 A1) :
    Chain w (w'.heap.size + 1) cb ab c0 b0 c1 b1 w'.heap.size ∧ MP w (w'.alloc (.cells #[.slice none 0 0, .slice none 0 0] 51)) (w'.heap.size + 1) cb ab c0 b0 c1 b1 w'.heap.size A0 A1 [] [] := by
  have hb := (Below.refl w'.heap.size w').alloc (Nat.le_refl _) (.cells #[.slice none 0 0, .slice none 0 0] 51)
  have hi := h.same hb
  refine ⟨⟨by have := h.h0; have := h.h1; omega, h.h2, k1, k2, k3, k4, h1.lt.1, by omega⟩, hi.low, by simp, h0.keep hb, h1.keep hb, hi.cc, hi.aa, .slice none 0 0, .slice none 0 0, heap_alloc_new w' _, ?_, ?_, fun g e => by simp [Value.ownBlock] at e⟩
  · exact World.ownsRow_nil _ _ _ _
  · exact World.ownsRow_nil _ _ _ _

/-- A block that a new Align, or its clock, is in is none of the arrays'. -/
theorem AlignAt.off {w : World} {b c ab k : Nat} {A : Al} {v : Value} (h : AlignAt w b c A) (h1 : ab ≠ b) (h2 : ab ≠ c) : AlignAt (w.setCell ⟨ab, k, none⟩ v) b c A :=
  h.at_ (Below.heap_setCell _ _ _ _ (Ne.symm h1)) (Below.heap_setCell _ _ _ _ (Ne.symm h2))

/-- How far the beginning is. -/
def Far (w wr : World) (sb cb ab m : Nat) : Prop :=
  (m = 0 ∧ Ini w wr sb cb ab (.pointer none) (.pointer none) (.pointer none) (.pointer none)) ∨
  (m = 1 ∧ ∃ c0 b0, ab < c0 ∧ c0 < b0 ∧ Ini w wr sb cb ab (pt c0) (.pointer none) (pt b0) (.pointer none) ∧ AlignAt wr b0 c0 (idA false false)) ∨
  (m = 2 ∧ ∃ c0 b0 c1 b1, ab < c0 ∧ c0 < b0 ∧ b0 < c1 ∧ c1 < b1 ∧ Ini w wr sb cb ab (pt c0) (pt c1) (pt b0) (pt b1) ∧ AlignAt wr b0 c0 (idA false false) ∧ AlignAt wr b1 c1 (idA false false))
end Go.Proofs.Ytmcjjminlbempaa.Tape
