/- The basic laws' own awake; a unit that is kept; a message that is put. -/
import Derived.Test.YtldjglmelbkngaaGreatBasic4
import Derived.Test.YtldjglmelbkngaaGreatBasic6
import Derived.Lib.SlBytesConst
namespace Go.Proofs.YtldjglmelbkngaaGreat.Tape
open Go.ChangeShapes Go.WideShapes Go.ChangeAt Go.RowKit
set_option linter.unusedVariables false

/-- A unit is kept in a new block. -/
theorem kept_unit (w : World) (b f : Int) (bib fib : Bool) (k : Int) (ao : Option Addr) (n c : Nat) : ∃ W, (stU (.pointer (some ⟨w.heap.size, 0, none⟩)) (.agg (uC b f bib fib k (.slice ao n c)))).run Tryz.prog (w.alloc (.cells #[.int .u8 0, .int .u8 0, .bool false, .bool false, .int .u8 0, .int .u8 0, .bool false, .slice none 0 0] 32)) = .ok () W ∧
    Below w.heap.size w W ∧ W.heap[w.heap.size]? = some (.cells (uC b f bib fib k (.slice ao n c)) 32 (0, 0)) := by
  have hh := heap_alloc_new w (.cells zeroU 32)
  have hB := (Below.refl w.heap.size w).alloc (Nat.le_refl _) (.cells zeroU 32)
  exact ⟨_, st_unit hh rfl rfl (uC_one _ _ _ _ _ _ _ _), gb_below (putU_gb _ _ _) hB (Nat.le_refl _) hB.size, putU_heap hh rfl⟩

theorem uC_cells {w : World} {r : Nat} {b f : Int} {bib fib : Bool} {k : Int} {x : Value} (h : w.heap[r]? = some (.cells (uC b f bib fib k x) 32 (0, 0))) :
    w.cell? ⟨r, 0, none⟩ = some (.int .u8 b) ∧ w.cell? ⟨r, 1, none⟩ = some (.int .u8 f) ∧ w.cell? ⟨r, 2, none⟩ = some (.bool bib) ∧ w.cell? ⟨r, 3, none⟩ = some (.bool fib) ∧ w.cell? ⟨r, 4, none⟩ = some (.int .u8 k) ∧ w.cell? ⟨r, 7, none⟩ = some x := by
  obtain ⟨⟨h0, h1, h2, h3, h4, h5, h6, h7⟩, -⟩ := unit_cells h
  exact ⟨h0, h1, h2, h3, h4, h7⟩

/-- A message is put. -/
theorem BasIn.put {w : World} {p hb B : Nat} {T0 : Nat → Prop} {t : Bs} {s : Hs} (h : BasIn w p hb B T0 t s) (ao : Option Addr) (n cap : Nat) (xs : List Int) (hn : xs.length = n) (hr : Reads w ao (xs.map (.int .u8))) (hx : ∀ x ∈ xs, 0 ≤ x ∧ x ≤ 255) (hB : B ≤ w.heap.size)
    (h3 : 3 ≤ n) (h273 : n ≤ 273) (hm : (s.sent.length + s.next.length : Int) < s.most) (ho : (sz s.sent + sz s.next + n : Int) ≤ s.oct) :
    Calls Tryz.prog 87 #[.pointer (some ⟨hb, 0, none⟩), .slice ao n cap] w fun e w' => e = .returned (.int .i64 0) ∧ ∃ T1, BasIn w' p hb B T1 t { s with next := s.next ++ [xs] } ∧ Foot (fun g => g = p ∨ T0 g) (fun g => g = p ∨ T1 g) w w' := by
  refine (put_ok hb B T0 s ao n cap xs w h.hold hn hr hx hB h3 h273 hm ho).mono ?_
  rintro e w' ⟨rfl, T1, hat, hF⟩
  obtain ⟨h1, h2⟩ := h.step hat hF
  exact ⟨rfl, T1, h1, h2⟩

theorem BasIn.fbelow {w w' : World} {p hb B : Nat} {T0 T1 : Nat → Prop} {t : Bs} {s : Hs} (h : BasIn w p hb B T0 t s) (hF : Foot (fun g => g = p ∨ T0 g) (fun g => g = p ∨ T1 g) w w') {C : Nat} (hC : C ≤ B) (hw : C ≤ w.heap.size) : Below C w w' := hF.below (fun g hg => Nat.le_trans hC (h.at_.lt g hg).1) hw

attribute [local go_sem ↓] ldU_def stU_def

end Go.Proofs.YtldjglmelbkngaaGreat.Tape
