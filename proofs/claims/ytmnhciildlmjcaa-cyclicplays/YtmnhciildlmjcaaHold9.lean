/- Two rows joined; the contracts of hold's copies, and of a Hold's Rest. -/
import Derived.Test.YtmnhciildlmjcaaHold7
import Derived.Lib.AppendZeros
namespace Go.Proofs.Ytmnhciildlmjcaa.Tape
open Go.ChangeShapes Go.WideShapes Go.ChangeAt Go.RowKit
set_option linter.unusedVariables false

theorem run_join_nothing (w : World) (ao xo : Option Addr) (n c : Nat) : (Builtin.append_ #[26, 26] 26 #[.slice ao n n, .slice xo 0 c]).run Try.prog w = .ok (.slice ao n n) w := by
  obtain ⟨i0, hi, hz0, hz1, hz2⟩ := info_parts info31
  cases ao with
  | none =>
    cases xo with
    | none => simp [Builtin.append_, run_underlying Try.underlying26, sizeOf, typeInfo, hi, Builtin.lenOf, run_firstCells_none]
    | some x =>
      have h := run_firstCells_some (P := Try.prog) w i0.size 0 x 0 c [] (by simp) (by intro _ _ h; simp at h)
      simp [Builtin.append_, run_underlying Try.underlying26, sizeOf, typeInfo, hi, Builtin.lenOf, h]
  | some a =>
    cases xo with
    | none => simp [Builtin.append_, run_underlying Try.underlying26, sizeOf, typeInfo, hi, Builtin.lenOf, run_firstCells_none, storeCells]
    | some x =>
      have h := run_firstCells_some (P := Try.prog) w i0.size 0 x 0 c [] (by simp) (by intro _ _ h; simp at h)
      simp [Builtin.append_, run_underlying Try.underlying26, sizeOf, typeInfo, hi, Builtin.lenOf, h, storeCells]

/-- A row without room, and another one behind it. -/
theorem run_join {w : World} {ao xo : Option Addr} {n m c : Nat} {us vs : List Value} (h : RowAt w (.slice ao n n) us) (k : RowAt w (.slice xo m c) vs) (hone : ∀ u ∈ vs, u.oneCell' = true) (hl : n + m ≤ 2000000) :
    ∃ v' w', (Builtin.append_ #[26, 26] 26 #[.slice ao n n, .slice xo m c]).run Try.prog w = .ok v' w' ∧ RowAt w' v' (us ++ vs) ∧ w.grownBy w' none ∧ (∀ g, v'.ownBlock = some g → ao.map (·.block) = some g ∨ w.heap.size ≤ g) := by
  obtain ⟨hn, -, -, hr⟩ := h.cell
  obtain ⟨hm, hmc, hno, hs⟩ := k.cell
  obtain ⟨i0, hi, hz0, hz1, hz2⟩ := info_parts info31
  by_cases hm0 : m = 0
  · subst hm0
    obtain rfl : vs = [] := List.eq_nil_of_length_eq_zero hm.symm
    refine ⟨_, w, run_join_nothing w ao xo n c, by simpa using h, ⟨rfl, rfl, rfl, Nat.le_refl _, fun _ _ _ => rfl⟩, fun g hg => .inl ?_⟩
    cases ao with
    | none => simp [Value.ownBlock] at hg
    | some a => simpa [Value.ownBlock] using hg
  · cases xo with
    | none => have := hno rfl; omega
    | some x =>
      cases ao with
      | none =>
        obtain rfl : us = [] := hr.none_nil
        obtain rfl : n = 0 := by simpa using hn
        obtain ⟨v', w', h1, h2, h3, -⟩ := run_append_own (P := Try.prog) w w.heap.size 26 26 30 i0 (.slice none 0 0) 1 24 Try.underlying26 hi hz0 hz1 hz2 rfl (by decide) (.slice none 0 0) 0 [] (World.ownsRow_nil _ _ _ _) x m c vs (by omega) hs.at hone (by unfold maxLen; omega) (by omega) (Nat.le_refl _)
        refine ⟨v', w', h1, ?_, h3, fun g hg => .inr (h2.lt g hg).1⟩
        have := RowAt.of_owns h2
        simpa using this
      | some a =>
        obtain ⟨v', w', h1, h2, h3⟩ := run_append_arg_grows (P := Try.prog) w 26 26 30 i0 (.slice none 0 0) 1 24 Try.underlying26 hi hz0 hz1 hz2 rfl (by decide) a n n us (by omega) hr.at x m c vs (by omega) hs.at (by omega) (by unfold maxLen; omega) (by omega)
        exact ⟨v', w', h1, RowAt.of_owns h2, h3, fun g hg => .inr (h2.lt g hg).1⟩

theorem Each.one {M : Value → List Int → Prop} (hM : ∀ u x, M u x → u.oneCell' = true) : ∀ {us : List Value} {xs : List (List Int)}, Each M us xs → ∀ u ∈ us, u.oneCell' = true
  | [], [], _ => by simp
  | u :: us, x :: xs, h => by
    intro v hv
    rcases List.mem_cons.1 hv with rfl | hv
    · exact hM _ _ h.1
    · exact h.2.one hM v hv
  | [], _ :: _, h => by cases h
  | _ :: _, [], h => by cases h
theorem HMsg.one {w : World} {B : Nat} {u : Value} {xs : List Int} (h : HMsg w B u xs) : u.oneCell' = true := by
  obtain ⟨m, cap, cur, rfl, -⟩ := h.form
  rfl
/-- Messages stay where a row grows. -/
theorem HMsg.grown {w w' : World} {B : Nat} {u v : Value} {us : List Value} {xs : List Int} (h : HMsg w B u xs) (hr : RowAt w v us) (hg : w.grownBy w' v.ownBlock) : HMsg w' B u xs := h.at_ fun g cur _ hh => hg.block g (heap_lt hh) (fun e => by
  obtain ⟨c, hc⟩ := hr.type g e.symm
  rw [hc] at hh
  simp at hh)
theorem HMsg.below {w w' : World} {B : Nat} {u : Value} {xs : List Int} (h : HMsg w B u xs) (hb : Below w.heap.size w w') : HMsg w' B u xs := h.at_ fun g _ _ hg => hb.block g (heap_lt hg)

end Go.Proofs.Ytmnhciildlmjcaa.Tape
