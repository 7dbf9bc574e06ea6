/- Octets of a law's beside its State. -/
import Derived.Test.YtldjglmelbkngaaGreatState19
namespace Go.Proofs.YtldjglmelbkngaaGreat.Tape
open Go.ChangeShapes Go.WideShapes Go.ChangeAt Go.RowKit
set_option linter.unusedVariables false

/-- Octets beside a State. -/
def Oct (g : Nat) (xs : List Int) : World → (Nat → Prop) → Prop := fun w T => Reads w (some ⟨g, 0, none⟩) (xs.map (.int .u8)) ∧ g < w.heap.size ∧ ¬ T g
theorem stays_oct (g : Nat) (xs : List Int) : Stays (Oct g xs) := fun w w' T T' hf hk => by
  obtain ⟨hr, hg, hn⟩ := hk
  refine ⟨fun j u hj => ?_, Nat.lt_of_lt_of_le hg hf.size, fun e => (hf.moved g e).elim hn fun e => by omega⟩
  obtain ⟨g', off, e, hc⟩ := hr j u hj
  simp only [Option.some.injEq, Addr.mk.injEq, and_true] at e
  obtain ⟨rfl, rfl⟩ := e
  exact ⟨g, 0, rfl, (World.cell?_of_block (a := ⟨g, 0 + j, none⟩) (hf.block g hg hn)).trans hc⟩

variable {w0 w w' : World} {P : Pl} {k k' m : Nat} {x x' : St} {K K' : World → (Nat → Prop) → Prop}

/-- New octets. -/
theorem LA.oct {xs : List Int} (h : LA w0 P k x K w) (hB : Below w.heap.size w w') (hr : Reads w' (some ⟨w.heap.size, 0, none⟩) (xs.map (.int .u8))) (hs : w.heap.size < w'.heap.size) : LA w0 P k x (andK K (Oct w.heap.size xs)) w' := by
  obtain ⟨⟨T, hS, hK⟩, hst, hb0, hl⟩ := h
  exact ⟨⟨T, hS.keep hB, hst _ _ _ _ (Foot.of_below hB) hK, hr, hs, fun e => by have := (hS.lt.1 _ e).2; omega⟩, stays_and hst (stays_oct _ _), hb0.trans (below_le hB hb0.size), hl⟩
/-- A unit with these octets came. -/
theorem LA.hearO {g : Nat} {xs : List Int} (h : LA w0 P (k + 10) x K w) (hi : ∀ T, K w T → Oct g xs w T) (b f kk st : Int) (ub uf wd : Bool) (n cap : Nat) (h0 : 0 ≤ b) (h1 : b ≤ 255) (hm : xs.length = n) (hl : n ≤ 1000) :
    Calls Tryz.prog 24 #[.pointer (some ⟨P.b, 0, none⟩), .agg #[.int .u8 b, .int .u8 f, .bool ub, .bool uf, .int .u8 kk, .int .u8 st, .bool wd, .slice (some ⟨g, 0, none⟩) n cap]] w fun e w' => e = .returned (.tuple #[]) ∧ ∃ q, LA w0 P k (x.hear b f kk st ub uf q) (andK K fun w T => x.hgets b f kk ub uf = true → MsgAt w T q xs) w' :=
  h.hear b f kk st ub uf wd (some ⟨g, 0, none⟩) n cap xs h0 h1 hm fun T _ hK => ⟨(hi T hK).1, by omega, (fun e => by cases e), .inr ⟨g, 0, rfl, (hi T hK).2.1, (hi T hK).2.2⟩⟩
theorem LA.the {q : Prop} (h : LA w0 P k x K w) (hi : ∀ T, K w T → q) : q := h.at_.elim fun T e => hi T e.2
/-- One of its box's fields is stored; its other octets stay. -/
theorem oct_put {g g' j : Nat} {y : Value} {xs : List Int} (hne : g ≠ g') {T : Nat → Prop} (h : Oct g xs w T) : Oct g xs (w.setCell ⟨g', j, none⟩ y) T :=
  ⟨gb_reads (b := g') (fun x e => by simp only [Option.some.injEq] at e; subst e; exact ⟨h.2.1, hne⟩) (gb_set y) h.1, Nat.lt_of_lt_of_le h.2.1 (gb_set (w := w) (b := g') (k := j) y).size, h.2.2⟩
theorem LA.taken (h : LA w0 P k x K w) : Calls Tryz.prog (fTaken P.cy) #[.pointer (some ⟨P.p, 0, none⟩)] w fun e w' => e = .returned (.int .u8 x.wt.last) ∧ w' = w := by
  obtain ⟨⟨T, ⟨hr, T0, v, rfl, hi⟩, hK⟩, hs, hb, hl⟩ := h
  have := wtaken_any P.p P.hb P.B T0 x.wt x.hs w hi.way
  rwa [hi.cyc] at this
end Go.Proofs.YtldjglmelbkngaaGreat.Tape
