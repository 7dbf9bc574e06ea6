/- The cyclic laws' own awake; a unit that is kept; a message that is put. -/
import Derived.Test.YtldjglmelbkngaaGreatCyc7
import Derived.Test.YtldjglmelbkngaaGreatSame6
import Derived.Lib.SlBytesConst
namespace Go.Proofs.YtldjglmelbkngaaGreat.Tape
open Go.ChangeShapes Go.WideShapes Go.ChangeAt Go.RowKit
set_option linter.unusedVariables false

/-- A message is put. -/
theorem CycIn.put {w : World} {p hb B : Nat} {T0 : Nat → Prop} {t : Cs} {s : Hs} (h : CycIn w p hb B T0 t s) (ao : Option Addr) (n cap : Nat) (xs : List Int) (hn : xs.length = n) (hr : Reads w ao (xs.map (.int .u8))) (hx : ∀ x ∈ xs, 0 ≤ x ∧ x ≤ 255) (hB : B ≤ w.heap.size)
    (h3 : 3 ≤ n) (h273 : n ≤ 273) (hm : (s.sent.length + s.next.length : Int) < s.most) (ho : (sz s.sent + sz s.next + n : Int) ≤ s.oct) :
    Calls Tryz.prog 87 #[.pointer (some ⟨hb, 0, none⟩), .slice ao n cap] w fun e w' => e = .returned (.int .i64 0) ∧ ∃ T1, CycIn w' p hb B T1 t { s with next := s.next ++ [xs] } ∧ Foot (fun g => g = p ∨ T0 g) (fun g => g = p ∨ T1 g) w w' := by
  refine (put_ok hb B T0 s ao n cap xs w h.hold hn hr hx hB h3 h273 hm ho).mono ?_
  rintro e w' ⟨rfl, T1, hat, hF⟩
  obtain ⟨h1, h2⟩ := h.step hat hF
  exact ⟨rfl, T1, h1, h2⟩

theorem CycIn.fbelow {w w' : World} {p hb B : Nat} {T0 T1 : Nat → Prop} {t : Cs} {s : Hs} (h : CycIn w p hb B T0 t s) (hF : Foot (fun g => g = p ∨ T0 g) (fun g => g = p ∨ T1 g) w w') {C : Nat} (hC : C ≤ B) (hw : C ≤ w.heap.size) : Below C w w' := hF.below (fun g hg => Nat.le_trans hC (h.at_.lt g hg).1) hw

/-- A unit is kept in a new block. -/
theorem kept_any (w : World) (u : Array Value) (h8 : u.size = 8) (h1 : u.all (·.oneCell') = true) : ∃ W, (stU (.pointer (some ⟨w.heap.size, 0, none⟩)) (.agg u)).run Tryz.prog (w.alloc (.cells #[.int .u8 0, .int .u8 0, .bool false, .bool false, .int .u8 0, .int .u8 0, .bool false, .slice none 0 0] 32)) = .ok () W ∧
    Below w.heap.size w W ∧ W.heap[w.heap.size]? = some (.cells u 32 (0, 0)) := by
  have hh := heap_alloc_new w (.cells zeroU 32)
  have hB := (Below.refl w.heap.size w).alloc (Nat.le_refl _) (.cells zeroU 32)
  exact ⟨_, st_unit hh rfl h8 h1, gb_below (putU_gb _ _ _) hB (Nat.le_refl _) hB.size, putU_heap hh h8.symm⟩

attribute [local go_sem ↓] ldU_def stU_def

end Go.Proofs.YtldjglmelbkngaaGreat.Tape
