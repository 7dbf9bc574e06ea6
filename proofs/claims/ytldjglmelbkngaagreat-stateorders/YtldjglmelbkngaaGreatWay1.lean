/- A way in memory, of either method; the contracts of way's kind, Name, Cyclic, Basic, New, Most. -/
import Derived.Test.YtldjglmelbkngaaGreatBasic5
import Derived.Test.YtldjglmelbkngaaGreatBasic7
import Derived.Test.YtldjglmelbkngaaGreatCyc8
import Derived.Test.YtldjglmelbkngaaGreatSetup2
import Derived.Handy
namespace Go.Proofs.YtldjglmelbkngaaGreat.Tape
open Go.ChangeShapes Go.WideShapes Go.ChangeAt Go.RowKit
set_option linter.unusedVariables false

/-- What a way has beside its Hold: by the basic method, or by the cyclic one. -/
abbrev Wt := Bs ⊕ Cs

/-- Is it the cyclic one? -/
def Wt.cyclic : Wt → Bool
  | .inl _ => false
  | .inr _ => true

/-- A way's value: its block is p. -/
def wayV (c : Bool) (p : Nat) : Value := .iface (if c then 106 else 108) (.pointer (some ⟨p, 0, none⟩))

/-- A way in memory: its block p, its Hold's block hb. -/
def WayIn (w : World) (p hb B : Nat) (T0 : Nat → Prop) (x : Wt) (s : Hs) : Prop := match x with
  | .inl t => BasIn w p hb B T0 t s
  | .inr t => CycIn w p hb B T0 t s

/-- A method's name. -/
def wayN (c : Bool) : ByteArray := if c then ⟨#[99, 121, 99, 108, 105, 99]⟩ else ⟨#[98, 97, 115, 105, 99]⟩

theorem assert_is (p : Nat) (w : World) : (Instr.typeAssert (.iface 108 (.pointer (some ⟨p, 0, none⟩))) 39 108 true).run Tryz.prog w = .ok (.tuple #[.pointer (some ⟨p, 0, none⟩), .bool true]) w ∧ (Instr.typeAssert (.iface 106 (.pointer (some ⟨p, 0, none⟩))) 39 106 true).run Tryz.prog w = .ok (.tuple #[.pointer (some ⟨p, 0, none⟩), .bool true]) w ∧ (Instr.typeAssert (.iface 108 (.pointer (some ⟨p, 0, none⟩))) 39 108 false).run Tryz.prog w = .ok (.pointer (some ⟨p, 0, none⟩)) w ∧
    (Instr.typeAssert (.iface 106 (.pointer (some ⟨p, 0, none⟩))) 39 108 true).run Tryz.prog w = .ok (.tuple #[.pointer none, .bool false]) w ∧ (Instr.typeAssert .nilIface 39 108 true).run Tryz.prog w = .ok (.tuple #[.pointer none, .bool false]) w ∧ (Instr.typeAssert .nilIface 39 106 true).run Tryz.prog w = .ok (.tuple #[.pointer none, .bool false]) w := by
  refine ⟨?_, ?_, ?_, ?_, ?_, ?_⟩ <;> (show _ = _; kernel_rfl)

/-- A new way, beside its Hold. -/
def wt0 (c : Bool) (n1 n2 : Int) : Wt := if c then .inr (cs0 n1 n2) else .inl bs0

/-- A setup's value. -/
def setV (c : Bool) (n1 n2 m o t0 t1 t2 t3 t4 t5 t6 t7 : Int) : Value := .agg #[.bool c, .int .i64 n1, .int .i64 n2, .int .i64 m, .int .i64 o, .int .i64 t0, .int .i64 t1, .int .i64 t2, .int .i64 t3, .int .i64 t4, .int .i64 t5, .int .i64 t6, .int .i64 t7]

set_option maxRecDepth 100000 in
set_option maxHeartbeats 1000000 in
theorem wnew_any (c : Bool) (n1 n2 m o t0 t1 t2 t3 t4 t5 t6 t7 : Int) (B : Nat) (w : World) (hm : m ≤ 1048576) (ho : o ≤ 1099511627776) (h1 : 1 ≤ n1) (h2 : 1 ≤ n2) (hB : B ≤ w.heap.size) :
    Calls Tryz.prog 39 #[setV c n1 n2 m o t0 t1 t2 t3 t4 t5 t6 t7] w fun e w' => ∃ p hb T, e = .returned (wayV c p) ∧ WayIn w' p hb B T (wt0 c n1 n2) ⟨m, o, 0, [], []⟩ ∧ (∀ g, (g = p ∨ T g) → w.heap.size ≤ g) ∧ Below w.heap.size w w' := by
  unfold setV
  obtain ⟨W, hW⟩ : ∃ W, W = w.alloc (.cells #[.bool c, .int .i64 n1, .int .i64 n2, .int .i64 m, .int .i64 o, .int .i64 t0, .int .i64 t1, .int .i64 t2, .int .i64 t3, .int .i64 t4, .int .i64 t5, .int .i64 t6, .int .i64 t7] 28) := ⟨_, rfl⟩
  have hBW : Below w.heap.size w W := by rw [hW]; exact (Below.refl _ _).alloc (Nat.le_refl _) _
  have hh : W.heap[w.heap.size]? = some (.cells #[.bool c, .int .i64 n1, .int .i64 n2, .int .i64 m, .int .i64 o, .int .i64 t0, .int .i64 t1, .int .i64 t2, .int .i64 t3, .int .i64 t4, .int .i64 t5, .int .i64 t6, .int .i64 t7] 28 (0, 0)) := by rw [hW]; exact heap_alloc_new w _
  have c0 : W.cell? ⟨w.heap.size, 0, none⟩ = some (.bool c) := by simp [World.cell?, hh]
  have c1 : W.cell? ⟨w.heap.size, 1, none⟩ = some (.int .i64 n1) := by simp [World.cell?, hh]
  have c2 : W.cell? ⟨w.heap.size, 2, none⟩ = some (.int .i64 n2) := by simp [World.cell?, hh]
  have c3 : W.cell? ⟨w.heap.size, 3, none⟩ = some (.int .i64 m) := by simp [World.cell?, hh]
  have c4 : W.cell? ⟨w.heap.size, 4, none⟩ = some (.int .i64 o) := by simp [World.cell?, hh]
  have hs := hBW.size
  have hbn := bnew_any m o B W hm ho (by omega)
  have hcn := cnew_any m o n1 n2 B W hm ho h1 h2 (by omega)
  have HBW : Hid (Below w.heap.size w W) := hBW
  have HS : Hid (w.heap.size ≤ W.heap.size) := hs
  clear hBW hh hs
  cases c
  all_goals
    go_enter Tryz.func39, Tryz.ntmps39
    go_upto_region 1 with fail
    rw [← hW]
    clear hW
    go_wp2_with fail
  · refine hbn.mono ?_
    rintro e w1 ⟨p, hb, T, rfl, hin, hT, hB1⟩
    go_wp2
    go_ret
    exact ⟨p, hb, T, rfl, hin, fun g hg => Nat.le_trans HS.out (hT g hg), HBW.out.trans (below_le hB1 HS.out)⟩
  · refine hcn.mono ?_
    rintro e w1 ⟨p, hb, T, rfl, hin, hT, hB1⟩
    go_wp2
    go_ret
    exact ⟨p, hb, T, rfl, hin, fun g hg => Nat.le_trans HS.out (hT g hg), HBW.out.trans (below_le hB1 HS.out)⟩

end Go.Proofs.YtldjglmelbkngaaGreat.Tape
