/- The reference's Side; the contracts of its Number, Behind, Send. -/
import Derived.Test.YtmnhciildlmjcaaHold7
import Derived.Deep.Cut
namespace Go.Proofs.Ytmnhciildlmjcaa.Tape
open Go.ChangeShapes Go.WideShapes Go.ChangeAt Go.RowKit
set_option linter.unusedVariables false

/-- What a Side has beside its messages. -/
structure Tail where
  cyc : Bool
  n1 : Int
  n2 : Int
  fib : Bool
  bib : Bool
  last : Int
  ask : Bool
  place : Int
  force : Bool
  b1 : Bool
  b2 : Bool
  i1 : Bool
  i2 : Bool

/-- A Side's cells. -/
def sideC (L : Value) (a f m o : Int) (t : Tail) : Array Value :=
  #[L, .int .i64 a, .int .i64 f, .int .i64 m, .int .i64 o, .bool t.cyc, .int .i64 t.n1, .int .i64 t.n2, .bool t.fib, .bool t.bib, .int .i64 t.last, .bool t.ask, .int .i64 t.place, .bool t.force, .bool t.b1, .bool t.b2, .bool t.i1, .bool t.i2]

set_option maxRecDepth 100000 in
set_option maxHeartbeats 1000000 in
theorem rnumber_any (L : Value) (a f m o : Int) (t : Tail) (i : Int) (w : World) (h0 : 0 ≤ f) (h1 : f < 128) (h2 : -128 ≤ i) (h3 : i ≤ 1000000) :
    Calls Try.prog 47 #[.agg (sideC L a f m o t), .int .i64 i] w fun e w' => e = .returned (.int .i64 ((f + i) % 128)) ∧ Below w.heap.size w w' := by
  have hB := (Below.refl w.heap.size w).alloc (Nat.le_refl _) (.cells (sideC L a f m o t) 28)
  have e : (f + i + 128) % 128 = (f + i) % 128 := by omega
  unfold sideC at *
  go_enter Try.func47, Try.ntmps47
  go_wp2
  go_ret
  exact ⟨ret_int e, hB⟩

/-- How many that wait a number answers. -/
def bhd (a f n : Int) : Int := if n < 0 ∨ 127 < n then -1 else if a < (n - f + 1) % 128 then -1 else (n - f + 1) % 128

set_option maxRecDepth 100000 in
set_option maxHeartbeats 1000000 in
theorem rbehind_any (L : Value) (a f m o : Int) (t : Tail) (n : Int) (w : World) (h0 : 0 ≤ f) (h1 : f < 128) (h2 : -1000 ≤ n) (h3 : n ≤ 1000) :
    Calls Try.prog 40 #[.agg (sideC L a f m o t), .int .i64 n] w fun e w' => e = .returned (.int .i64 (bhd a f n)) ∧ Below w.heap.size w w' := by
  have hB := (Below.refl w.heap.size w).alloc (Nat.le_refl _) (.cells (sideC L a f m o t) 28)
  unfold sideC at *
  by_cases hn : n < 0 ∨ 127 < n
  · have HE : Hid (bhd a f n = -1) := by show _ = _; unfold bhd; rw [if_pos hn]
    by_cases hn0 : n < 0
    · clear hn
      go_enter Try.func40, Try.ntmps40
      go_wp2
      go_ret
      exact ⟨ret_int HE.out.symm, hB⟩
    · have hn1 : 127 < n := by omega
      have hd : decide (n < 0) = false := decide_eq_false hn0
      clear hn
      go_enter Try.func40, Try.ntmps40
      go_wp2
      go_ret
      exact ⟨ret_int HE.out.symm, hB⟩
  · have hn0 : 0 ≤ n := by omega
    have hn1 : n ≤ 127 := by omega
    have e1 : (n - f + 1 + 256) % 128 = (n - f + 1) % 128 := by omega
    have hr : 0 ≤ (n - f + 1) % 128 ∧ (n - f + 1) % 128 < 128 := by omega
    have HE : Hid (bhd a f n = if a < (n - f + 1) % 128 then -1 else (n - f + 1) % 128) := by show _ = _; unfold bhd; rw [if_neg hn]
    have hd : decide (n < 0) = false := decide_eq_false (by omega)
    generalize (n - f + 1) % 128 = r at *
    clear hn
    by_cases ha : a < r
    · have HF : Hid (bhd a f n = -1) := by show _ = _; rw [HE.out, if_pos ha]
      go_enter Try.func40, Try.ntmps40
      go_wp2
      go_ret
      exact ⟨ret_int HF.out.symm, hB⟩
    · have HF : Hid (bhd a f n = r) := by show _ = _; rw [HE.out, if_neg ha]
      go_enter Try.func40, Try.ntmps40
      go_wp2
      go_ret
      exact ⟨ret_int HF.out.symm, hB⟩

/-- A Side that is loaded, or stored, whole, under names of their own. -/
def ldS (v : Value) : Sem Value := Instr.loadAt 28 v
theorem ldS_def (v : Value) : Instr.loadAt 28 v = ldS v := rfl
def stS (p v : Value) : Sem Unit := Instr.storeAt 28 p v
theorem stS_def (p v : Value) : Instr.storeAt 28 p v = stS p v := rfl
def putS (w : World) (B : Nat) (cs : Array Value) : World := w.setCells B 0 cs.toList

theorem info29 : (Try.prog.info? 28).map (·.size) = some 18 := by kernel_rfl

theorem range_all {w : World} {B : Nat} {cs : Array Value} {t : TypeId} (h : w.heap[B]? = some (.cells cs t (0, 0))) : w.rangeAt B 0 cs.toList := by
  have := World.rangeAt_of_block h 0 cs.size
  simpa using this

theorem ld_side {w : World} {B : Nat} {cs : Array Value} (h : w.heap[B]? = some (.cells cs 28 (0, 0))) (hs : cs.size = 18) : (ldS (.pointer (some ⟨B, 0, none⟩))).run Try.prog w = .ok (.agg cs) w ∧ (loadVar 28 ⟨B, 0, none⟩).run Try.prog w = .ok (.agg cs) w := by
  constructor
  · show (Instr.loadAt 28 (.pointer (some ⟨B, 0, none⟩))).run Try.prog w = .ok (.agg cs) w
    have := run_loadAt_mid (P := Try.prog) w B 0 28 cs.toList _ (range_all h) Try.underlying28 rfl (by rw [info29]; simp [hs])
    simpa using this
  · have := run_loadVar_mid (P := Try.prog) w B 0 28 cs.toList _ (range_all h) Try.underlying28 rfl (by rw [info29]; simp [hs])
    simpa using this

theorem st_side {w : World} {B : Nat} {cs ds : Array Value} (h : w.heap[B]? = some (.cells cs 28 (0, 0))) (hs : cs.size = 18) (hd : ds.size = 18) (h1 : ds.all (·.oneCell') = true) : (stS (.pointer (some ⟨B, 0, none⟩)) (.agg ds)).run Try.prog w = .ok () (putS w B ds) := by
  refine run_storeAt_mid (P := Try.prog) w B 0 28 ds (fun j hj => ?_) (by rw [info29, hd]) h1
  have h' : w.heap[B]? = some (.cells cs.toList.toArray 28 (0, 0)) := by simpa using h
  refine ⟨?_, Lib.frozen_of_heap h' _⟩
  rw [Lib.cell_of_heap h', Nat.zero_add]
  simp only [List.getElem?_toArray]
  rw [List.getElem?_eq_getElem (by simp only [Array.length_toList]; omega)]
  rfl

theorem heap_setCells_other (w : World) (b : Nat) (vs : List Value) : ∀ o k, k ≠ b → (w.setCells b o vs).heap[k]? = w.heap[k]? := by
  induction vs generalizing w with
  | nil => intro o k _; rfl
  | cons v vs ih =>
    intro o k hk
    simp only [World.setCells]
    rw [ih _ _ _ hk, Below.heap_setCell _ _ _ _ hk]

theorem heap_setCells_same (b : Nat) (t : TypeId) (vs : List Value) : ∀ (w : World) (pre cs : List Value), w.heap[b]? = some (.cells (pre ++ cs).toArray t (0, 0)) → cs.length = vs.length → (w.setCells b pre.length vs).heap[b]? = some (.cells (pre ++ vs).toArray t (0, 0)) := by
  induction vs with
  | nil =>
    intro w pre cs h hl
    obtain rfl : cs = [] := List.eq_nil_of_length_eq_zero (by simpa using hl)
    exact h
  | cons v vs ih =>
    intro w pre cs h hl
    cases cs with
    | nil => simp at hl
    | cons c cs =>
      simp only [World.setCells]
      have h2 := row_set h pre.length v
      have e : (pre ++ c :: cs).set pre.length v = (pre ++ [v]) ++ cs := by simp
      rw [e] at h2
      have := ih _ (pre ++ [v]) cs h2 (by simpa using hl)
      simpa using this

theorem setCells_size (w : World) (b : Nat) (vs : List Value) : ∀ o, (w.setCells b o vs).heap.size = w.heap.size ∧ (w.setCells b o vs).os = w.os ∧ (w.setCells b o vs).tape = w.tape ∧ (w.setCells b o vs).output = w.output := by
  induction vs generalizing w with
  | nil => intro o; exact ⟨rfl, rfl, rfl, rfl⟩
  | cons v vs ih =>
    intro o
    simp only [World.setCells]
    obtain ⟨h1, h2, h3, h4⟩ := ih (w.setCell ⟨b, o, none⟩ v) (o + 1)
    exact ⟨h1.trans (by simp [World.setCell]), h2, h3, h4⟩

theorem putS_heap {w : World} {B : Nat} {cs ds : Array Value} (h : w.heap[B]? = some (.cells cs 28 (0, 0))) (hs : cs.size = ds.size) : (putS w B ds).heap[B]? = some (.cells ds 28 (0, 0)) := by
  have := heap_setCells_same B 28 ds.toList w [] cs.toList (by simpa using h) (by simpa using hs)
  simpa [putS] using this
theorem putS_gb (w : World) (B : Nat) (ds : Array Value) : w.grownBy (putS w B ds) (some B) := by
  obtain ⟨h1, h2, h3, h4⟩ := setCells_size w B ds.toList 0
  exact ⟨h2, h3, h4, Nat.le_of_eq h1.symm, fun i _ hi => heap_setCells_other w B ds.toList 0 i (fun e => hi (by rw [e]))⟩
theorem putS_below {w w0 : World} {B C : Nat} (ds : Array Value) (h : Below C w0 w) (hB : C ≤ B) : Below C w0 (putS w B ds) :=
  h.trans ⟨(putS_gb w B ds).os, (putS_gb w B ds).tape, (putS_gb w B ds).output, (putS_gb w B ds).size, fun k hk => heap_setCells_other w B ds.toList 0 k (by omega)⟩

theorem sideC_size (L : Value) (a f m o : Int) (t : Tail) : (sideC L a f m o t).size = 18 := rfl
theorem sideC_one (lo : Option Addr) (n c : Nat) (a f m o : Int) (t : Tail) : (sideC (.slice lo n c) a f m o t).all (·.oneCell') = true := by simp [sideC, Value.oneCell']

theorem side_cells {w : World} {B : Nat} {L : Value} {a f m o : Int} {t : Tail} (h : w.heap[B]? = some (.cells (sideC L a f m o t) 28 (0, 0))) :
    (w.cell? ⟨B, 0, none⟩ = some L ∧ w.cell? ⟨B, 1, none⟩ = some (.int .i64 a) ∧ w.cell? ⟨B, 2, none⟩ = some (.int .i64 f) ∧ w.cell? ⟨B, 3, none⟩ = some (.int .i64 m) ∧ w.cell? ⟨B, 4, none⟩ = some (.int .i64 o)) ∧ ∀ k, w.frozen? ⟨B, k, none⟩ = false := by
  unfold sideC at h
  refine ⟨⟨?_, ?_, ?_, ?_, ?_⟩, Lib.frozen_of_heap h⟩ <;> rw [Lib.cell_of_heap h] <;> rfl

theorem side_set0 {w : World} {B : Nat} {L : Value} {a f m o : Int} {t : Tail} (h : w.heap[B]? = some (.cells (sideC L a f m o t) 28 (0, 0))) (L' : Value) : (w.setCell ⟨B, 0, none⟩ L').heap[B]? = some (.cells (sideC L' a f m o t) 28 (0, 0)) :=
  row_set (cs := [L, .int .i64 a, .int .i64 f, .int .i64 m, .int .i64 o, .bool t.cyc, .int .i64 t.n1, .int .i64 t.n2, .bool t.fib, .bool t.bib, .int .i64 t.last, .bool t.ask, .int .i64 t.place, .bool t.force, .bool t.b1, .bool t.b2, .bool t.i1, .bool t.i2]) h 0 L'
theorem side_set1 {w : World} {B : Nat} {L : Value} {a f m o : Int} {t : Tail} (h : w.heap[B]? = some (.cells (sideC L a f m o t) 28 (0, 0))) (a' : Int) : (w.setCell ⟨B, 1, none⟩ (.int .i64 a')).heap[B]? = some (.cells (sideC L a' f m o t) 28 (0, 0)) :=
  row_set (cs := [L, .int .i64 a, .int .i64 f, .int .i64 m, .int .i64 o, .bool t.cyc, .int .i64 t.n1, .int .i64 t.n2, .bool t.fib, .bool t.bib, .int .i64 t.last, .bool t.ask, .int .i64 t.place, .bool t.force, .bool t.b1, .bool t.b2, .bool t.i1, .bool t.i2]) h 1 (.int .i64 a')
theorem side_set2 {w : World} {B : Nat} {L : Value} {a f m o : Int} {t : Tail} (h : w.heap[B]? = some (.cells (sideC L a f m o t) 28 (0, 0))) (f' : Int) : (w.setCell ⟨B, 2, none⟩ (.int .i64 f')).heap[B]? = some (.cells (sideC L a f' m o t) 28 (0, 0)) :=
  row_set (cs := [L, .int .i64 a, .int .i64 f, .int .i64 m, .int .i64 o, .bool t.cyc, .int .i64 t.n1, .int .i64 t.n2, .bool t.fib, .bool t.bib, .int .i64 t.last, .bool t.ask, .int .i64 t.place, .bool t.force, .bool t.b1, .bool t.b2, .bool t.i1, .bool t.i2]) h 2 (.int .i64 f')

/-- A new Side's zero cells. -/
def zeroS : Array Value := #[.slice none 0 0, .int .i64 0, .int .i64 0, .int .i64 0, .int .i64 0, .bool false, .int .i64 0, .int .i64 0, .bool false, .bool false, .int .i64 0, .bool false, .int .i64 0, .bool false, .bool false, .bool false, .bool false, .bool false]

attribute [local go_sem ↓] ldS_def stS_def

set_option maxRecDepth 100000 in
set_option maxHeartbeats 1000000 in
theorem rnew_any (m o : Int) (w : World) : Calls Try.prog 28 #[.int .i64 m, .int .i64 o] w fun e w' => e = .returned (.agg (sideC (.slice none 0 0) 0 0 m o ⟨false, 0, 0, true, true, 127, false, -1, false, false, false, false, false⟩)) ∧ Below w.heap.size w w' := by
  have hB := (Below.refl w.heap.size w).alloc (Nat.le_refl _) (.cells zeroS 28)
  have hh := heap_alloc_new w (.cells zeroS 28)
  have hst := st_side (ds := sideC (.slice none 0 0) 0 0 m o ⟨false, 0, 0, true, true, 127, false, -1, false, false, false, false, false⟩) hh rfl rfl (sideC_one _ _ _ _ _ _ _ _)
  have hB2 := putS_below (sideC (.slice none 0 0) 0 0 m o ⟨false, 0, 0, true, true, 127, false, -1, false, false, false, false, false⟩) hB (Nat.le_refl _)
  have hld := (ld_side (putS_heap (ds := sideC (.slice none 0 0) 0 0 m o ⟨false, 0, 0, true, true, 127, false, -1, false, false, false, false, false⟩) hh rfl) rfl).2
  generalize hW : putS (w.alloc (.cells zeroS 28)) w.heap.size (sideC (.slice none 0 0) 0 0 m o ⟨false, 0, 0, true, true, 127, false, -1, false, false, false, false, false⟩) = W at *
  clear hW hh hB
  unfold zeroS at *
  unfold sideC at *
  go_enter Try.func28, Try.ntmps28
  go_wp2
  refine bodyPost_ret (v := .agg (sideC (.slice none 0 0) 0 0 m o ⟨false, 0, 0, true, true, 127, false, -1, false, false, false, false, false⟩)) (by simp [results, Try.results28, asAddr, hld, sideC]) rfl ?_
  exact ⟨rfl, hB2⟩

/-- Two new blocks: a Side that came by value, and the one that goes back. -/
theorem two_sides (w : World) (L : Value) (a f m o : Int) (t : Tail) : ∃ W, W = (w.alloc (.cells (sideC L a f m o t) 28)).alloc (.cells zeroS 28) ∧ Below w.heap.size w W ∧ W.heap[w.heap.size]? = some (.cells (sideC L a f m o t) 28 (0, 0)) ∧ W.heap[w.heap.size + 1]? = some (.cells zeroS 28 (0, 0)) ∧ W.heap.size = w.heap.size + 2 := by
  refine ⟨_, rfl, ((Below.refl w.heap.size w).alloc (Nat.le_refl _) _).alloc (by simp) _, ?_, ?_, by simp⟩
  · exact heap_more (heap_alloc_new w _) _
  · have := heap_alloc_new (w.alloc (.cells (sideC L a f m o t) 28)) (.cells zeroS 28)
    simpa using this

theorem below_set {w0 W : World} {C b : Nat} (k : Nat) (v : Value) (h : Below C w0 W) (hb : C ≤ b) : Below C w0 (W.setCell ⟨b, k, none⟩ v) := h.setCell hb v

/-- A Side goes back. -/
theorem back {w0 W : World} {C H : Nat} {zs cs : Array Value} (hb : W.heap[H]? = some (.cells zs 28 (0, 0))) (hz : zs.size = 18) (hc : cs.size = 18) (h1 : cs.all (·.oneCell') = true) (hB : Below C w0 W) (hC : C ≤ H) :
    ∃ W2, (stS (.pointer (some ⟨H, 0, none⟩)) (.agg cs)).run Try.prog W = .ok () W2 ∧ (loadVar 28 ⟨H, 0, none⟩).run Try.prog W2 = .ok (.agg cs) W2 ∧ Below C w0 W2 :=
  ⟨_, st_side hb hz hc h1, (ld_side (putS_heap hb (hz.trans hc.symm)) hc).2, putS_below cs hB hC⟩

theorem heap_set_ne {w : World} {b k : Nat} {x : Obj} (h : w.heap[b]? = some x) (g : Nat) (v : Value) (hne : b ≠ g) : (w.setCell ⟨g, k, none⟩ v).heap[b]? = some x := (Below.heap_setCell _ _ _ _ hne).trans h

set_option maxRecDepth 100000 in
set_option maxHeartbeats 1000000 in
theorem rsend_any (lo : Option Addr) (n cap : Nat) (a f m o : Int) (t : Tail) (w : World) (h0 : 0 ≤ a) (h1 : a ≤ 1000000) (hn : n ≤ 2000000) :
    Calls Try.prog 35 #[.agg (sideC (.slice lo n cap) a f m o t)] w fun e w' => e = .returned (.tuple #[.agg (sideC (.slice lo n cap) (if a ≥ n then a else if a ≥ 127 then a else a + 1) f m o t), .int .i64 (if a ≥ n then 2 else if a ≥ 127 then 3 else 0)]) ∧ Below w.heap.size w w' := by
  obtain ⟨W, hW, hB, hb1, hb2, -⟩ := two_sides w (.slice lo n cap) a f m o t
  obtain ⟨⟨c0, c1, -, -, -⟩, hz⟩ := side_cells hb1
  have z1 := hz 1
  unfold zeroS at hW
  by_cases ha : a ≥ n
  · rw [if_pos ha, if_pos ha]
    have hld := (ld_side hb1 rfl).1
    obtain ⟨W2, hst, hres, hB2⟩ := back hb2 rfl (sideC_size (.slice lo n cap) a f m o t) (sideC_one _ _ _ _ _ _ _ _) hB (show w.heap.size ≤ w.heap.size + 1 by omega)
    clear hb1 hb2 hz z1 hB
    go_enter Try.func35, Try.ntmps35
    go_upto_region 1 with fail
    rw [← hW]
    clear hW
    go_wp2
    refine bodyPost_ret (v := .tuple #[.agg (sideC (.slice lo n cap) a f m o t), .int .i64 2]) (by simp [results, Try.results35, asAddr, hres]) rfl ?_
    exact ⟨rfl, hB2⟩
  · rw [if_neg ha, if_neg ha]
    by_cases ha2 : a ≥ 127
    · rw [if_pos ha2, if_pos ha2]
      have hld := (ld_side hb1 rfl).1
      obtain ⟨W2, hst, hres, hB2⟩ := back hb2 rfl (sideC_size (.slice lo n cap) a f m o t) (sideC_one _ _ _ _ _ _ _ _) hB (show w.heap.size ≤ w.heap.size + 1 by omega)
      clear hb1 hb2 hz z1 hB
      go_enter Try.func35, Try.ntmps35
      go_upto_region 1 with fail
      rw [← hW]
      clear hW
      go_wp2
      refine bodyPost_ret (v := .tuple #[.agg (sideC (.slice lo n cap) a f m o t), .int .i64 3]) (by simp [results, Try.results35, asAddr, hres]) rfl ?_
      exact ⟨rfl, hB2⟩
    · rw [if_neg ha2, if_neg ha2]
      have hld := (ld_side (side_set1 hb1 (a + 1)) rfl).1
      have hb2' := heap_set_ne (k := 1) hb2 w.heap.size (.int .i64 (a + 1)) (by omega)
      obtain ⟨W2, hst, hres, hB2⟩ := back hb2' rfl (sideC_size (.slice lo n cap) (a + 1) f m o t) (sideC_one _ _ _ _ _ _ _ _) (below_set 1 (.int .i64 (a + 1)) hB (Nat.le_refl _)) (show w.heap.size ≤ w.heap.size + 1 by omega)
      clear hb1 hb2 hz hB hb2'
      go_enter Try.func35, Try.ntmps35
      go_upto_region 1 with fail
      rw [← hW]
      clear hW
      go_wp2
      refine bodyPost_ret (v := .tuple #[.agg (sideC (.slice lo n cap) (a + 1) f m o t), .int .i64 0]) (by simp [results, Try.results35, asAddr, hres]) rfl ?_
      exact ⟨rfl, hB2⟩

set_option maxRecDepth 100000 in
set_option maxHeartbeats 1000000 in
theorem rfree_no (lo : Option Addr) (n cap : Nat) (a f m o x : Int) (t : Tail) (w : World) (h0 : 0 ≤ f) (h1 : f < 128) (h2 : -1000 ≤ x) (h3 : x ≤ 1000) (hb : bhd a f x = -1) :
    Calls Try.prog 41 #[.agg (sideC (.slice lo n cap) a f m o t), .int .i64 x] w fun e w' => e = .returned (.tuple #[.agg (sideC (.slice lo n cap) a f m o t), .int .i64 (-1)]) ∧ Below w.heap.size w w' := by
  obtain ⟨W, hW, hB, hb1, hb2, hsz⟩ := two_sides w (.slice lo n cap) a f m o t
  have hld0 := (ld_side hb1 rfl).1
  have hbe := rbehind_any (.slice lo n cap) a f m o t x W h0 h1 h2 h3
  rw [hb] at hbe
  unfold zeroS at hW
  go_enter Try.func41, Try.ntmps41
  go_upto_region 1 with fail
  rw [← hW]
  clear hW
  go_wp2_with fail
  refine hbe.mono ?_
  rintro e W1 ⟨rfl, hB1⟩
  have hk1 := (hB1.block _ (heap_lt hb1)).trans hb1
  have hk2 := (hB1.block _ (heap_lt hb2)).trans hb2
  have hld := (ld_side hk1 rfl).1
  obtain ⟨W2, hst, hres, hB2⟩ := back hk2 rfl (sideC_size (.slice lo n cap) a f m o t) (sideC_one _ _ _ _ _ _ _ _) (hB.trans (below_le hB1 hB.size)) (show w.heap.size ≤ w.heap.size + 1 by omega)
  clear hb1 hb2 hB hB1 hk1 hk2 hld0 hbe
  go_wp2
  refine bodyPost_ret (v := .tuple #[.agg (sideC (.slice lo n cap) a f m o t), .int .i64 (-1)]) (by simp [results, Try.results41, asAddr, hres]) rfl ?_
  exact ⟨rfl, hB2⟩

set_option maxRecDepth 100000 in
set_option maxHeartbeats 1000000 in
theorem rfree_nil (a : Nat) (f m o x : Int) (t : Tail) (w : World) (hf0 : 0 ≤ f) (hf1 : f < 128) (h2 : -1000 ≤ x) (h3 : x ≤ 1000) (hb : bhd a f x = 0) (ha : a ≤ 1000) :
    Calls Try.prog 41 #[.agg (sideC (.slice none 0 0) a f m o t), .int .i64 x] w fun e w' => e = .returned (.tuple #[.agg (sideC (.slice none 0 0) (a : Int) (f % 128) m o t), .int .i64 0]) ∧ Below w.heap.size w w' := by
  obtain ⟨W, hW, hB, hb1, hb2, hsz⟩ := two_sides w (.slice none 0 0) a f m o t
  have hld0 := (ld_side hb1 rfl).1
  have hbe := rbehind_any (.slice none 0 0) a f m o t x W hf0 hf1 h2 h3
  rw [hb] at hbe
  unfold zeroS at hW
  go_enter Try.func41, Try.ntmps41
  go_upto_region 1 with fail
  rw [← hW]
  clear hW
  go_wp2_with fail
  refine hbe.mono ?_
  rintro e W1 ⟨rfl, hB1⟩
  have hk1 := (hB1.block _ (heap_lt hb1)).trans hb1
  have hk3 := (hB1.block _ (heap_lt hb2)).trans hb2
  obtain ⟨⟨c0, c1, c2, -, -⟩, hz⟩ := side_cells hk1
  have z0 := hz 0
  have z1 := hz 1
  have z2 := hz 2
  have s0 := side_set0 hk1 (.slice none 0 0)
  have s1 := side_set1 s0 (a : Int)
  have s2 := side_set2 s1 (f % 128)
  have hld := (ld_side s2 rfl).1
  have hk4 := heap_set_ne (k := 2) (heap_set_ne (k := 1) (heap_set_ne (k := 0) hk3 w.heap.size (.slice none 0 0) (by omega)) w.heap.size (.int .i64 (a : Int)) (by omega)) w.heap.size (.int .i64 (f % 128)) (by omega)
  obtain ⟨W2, hst, hres, hB2⟩ := back hk4 rfl (sideC_size (.slice none 0 0) (a : Int) (f % 128) m o t) (sideC_one _ _ _ _ _ _ _ _) (below_set 2 _ (below_set 1 _ (below_set 0 _ (hB.trans (below_le hB1 hB.size)) (Nat.le_refl _)) (Nat.le_refl _)) (Nat.le_refl _)) (show w.heap.size ≤ w.heap.size + 1 by omega)
  clear hb1 hb2 hB hB1 hk1 hk3 hld0 hbe hz s0 s1 s2 hk4 hb
  go_wp2
  refine bodyPost_ret (v := .tuple #[.agg (sideC (.slice none 0 0) (a : Int) (f % 128) m o t), .int .i64 0]) (by simp [results, Try.results41, asAddr, hres]) rfl ?_
  exact ⟨rfl, hB2⟩

set_option maxRecDepth 100000 in
set_option maxHeartbeats 1000000 in
theorem rfree_end (g off k a : Nat) (f m o x : Int) (t : Tail) (w : World) (hf0 : 0 ≤ f) (hf1 : f < 128) (h2 : -1000 ≤ x) (h3 : x ≤ 1000) (hb : bhd a f x = k) (hk2 : k ≤ 1000) (ha : a ≤ 1000) :
    Calls Try.prog 41 #[.agg (sideC (.slice (some ⟨g, off, none⟩) k k) a f m o t), .int .i64 x] w fun e w' => e = .returned (.tuple #[.agg (sideC (.slice (some ⟨g, off, none⟩) 0 0) ((a : Int) - k) ((f + k) % 128) m o t), .int .i64 k]) ∧ Below w.heap.size w w' := by
  obtain ⟨W, hW, hB, hb1, hb2, hsz⟩ := two_sides w (.slice (some ⟨g, off, none⟩) k k) a f m o t
  have hld0 := (ld_side hb1 rfl).1
  have hbe := rbehind_any (.slice (some ⟨g, off, none⟩) k k) a f m o t x W hf0 hf1 h2 h3
  rw [hb] at hbe
  unfold zeroS at hW
  go_enter Try.func41, Try.ntmps41
  go_upto_region 1 with fail
  rw [← hW]
  clear hW
  go_wp2_with fail
  refine hbe.mono ?_
  rintro e W1 ⟨rfl, hB1⟩
  have hk1 := (hB1.block _ (heap_lt hb1)).trans hb1
  have hk3 := (hB1.block _ (heap_lt hb2)).trans hb2
  obtain ⟨⟨c0, c1, c2, -, -⟩, hz⟩ := side_cells hk1
  have z0 := hz 0
  have z1 := hz 1
  have z2 := hz 2
  have s0 := side_set0 hk1 (.slice (some ⟨g, off, none⟩) 0 0)
  have s1 := side_set1 s0 ((a : Int) - k)
  have s2 := side_set2 s1 ((f + k) % 128)
  have hld := (ld_side s2 rfl).1
  have hk4 := heap_set_ne (k := 2) (heap_set_ne (k := 1) (heap_set_ne (k := 0) hk3 w.heap.size (.slice (some ⟨g, off, none⟩) 0 0) (by omega)) w.heap.size (.int .i64 ((a : Int) - k)) (by omega)) w.heap.size (.int .i64 ((f + k) % 128)) (by omega)
  obtain ⟨W2, hst, hres, hB2⟩ := back hk4 rfl (sideC_size (.slice (some ⟨g, off, none⟩) 0 0) ((a : Int) - k) ((f + k) % 128) m o t) (sideC_one _ _ _ _ _ _ _ _) (below_set 2 _ (below_set 1 _ (below_set 0 _ (hB.trans (below_le hB1 hB.size)) (Nat.le_refl _)) (Nat.le_refl _)) (Nat.le_refl _)) (show w.heap.size ≤ w.heap.size + 1 by omega)
  clear hb1 hb2 hB hB1 hk1 hk3 hld0 hbe hz s0 s1 s2 hk4 hb
  go_wp2
  refine bodyPost_ret (v := .tuple #[.agg (sideC (.slice (some ⟨g, off, none⟩) 0 0) ((a : Int) - k) ((f + k) % 128) m o t), .int .i64 k]) (by simp [results, Try.results41, asAddr, hres]) rfl ?_
  exact ⟨rfl, hB2⟩

set_option maxRecDepth 100000 in
set_option maxHeartbeats 1000000 in
theorem rfree_in (g off n cap k a : Nat) (f m o x : Int) (t : Tail) (w : World) (hf0 : 0 ≤ f) (hf1 : f < 128) (h2 : -1000 ≤ x) (h3 : x ≤ 1000) (hb : bhd a f x = k) (hk2 : k ≤ 1000) (ha : a ≤ 1000) (hk : k ≤ n) (hn : n ≤ cap) (hck : ¬ cap = k) :
    Calls Try.prog 41 #[.agg (sideC (.slice (some ⟨g, off, none⟩) n cap) a f m o t), .int .i64 x] w fun e w' => e = .returned (.tuple #[.agg (sideC (.slice (some ⟨g, off + k, none⟩) (n - k) (cap - k)) ((a : Int) - k) ((f + k) % 128) m o t), .int .i64 k]) ∧ Below w.heap.size w w' := by
  obtain ⟨W, hW, hB, hb1, hb2, hsz⟩ := two_sides w (.slice (some ⟨g, off, none⟩) n cap) a f m o t
  have hld0 := (ld_side hb1 rfl).1
  have hbe := rbehind_any (.slice (some ⟨g, off, none⟩) n cap) a f m o t x W hf0 hf1 h2 h3
  rw [hb] at hbe
  unfold zeroS at hW
  go_enter Try.func41, Try.ntmps41
  go_upto_region 1 with fail
  rw [← hW]
  clear hW
  go_wp2_with fail
  refine hbe.mono ?_
  rintro e W1 ⟨rfl, hB1⟩
  have hk1 := (hB1.block _ (heap_lt hb1)).trans hb1
  have hk3 := (hB1.block _ (heap_lt hb2)).trans hb2
  obtain ⟨⟨c0, c1, c2, -, -⟩, hz⟩ := side_cells hk1
  have z0 := hz 0
  have z1 := hz 1
  have z2 := hz 2
  have s0 := side_set0 hk1 (.slice (some ⟨g, off + k, none⟩) (n - k) (cap - k))
  have s1 := side_set1 s0 ((a : Int) - k)
  have s2 := side_set2 s1 ((f + k) % 128)
  have hld := (ld_side s2 rfl).1
  have hk4 := heap_set_ne (k := 2) (heap_set_ne (k := 1) (heap_set_ne (k := 0) hk3 w.heap.size (.slice (some ⟨g, off + k, none⟩) (n - k) (cap - k)) (by omega)) w.heap.size (.int .i64 ((a : Int) - k)) (by omega)) w.heap.size (.int .i64 ((f + k) % 128)) (by omega)
  obtain ⟨W2, hst, hres, hB2⟩ := back hk4 rfl (sideC_size (.slice (some ⟨g, off + k, none⟩) (n - k) (cap - k)) ((a : Int) - k) ((f + k) % 128) m o t) (sideC_one _ _ _ _ _ _ _ _) (below_set 2 _ (below_set 1 _ (below_set 0 _ (hB.trans (below_le hB1 hB.size)) (Nat.le_refl _)) (Nat.le_refl _)) (Nat.le_refl _)) (show w.heap.size ≤ w.heap.size + 1 by omega)
  clear hb1 hb2 hB hB1 hk1 hk3 hld0 hbe hz s0 s1 s2 hk4 hb
  go_wp2
  refine bodyPost_ret (v := .tuple #[.agg (sideC (.slice (some ⟨g, off + k, none⟩) (n - k) (cap - k)) ((a : Int) - k) ((f + k) % 128) m o t), .int .i64 k]) (by simp [results, Try.results41, asAddr, hres]) rfl ?_
  exact ⟨rfl, hB2⟩

end Go.Proofs.Ytmnhciildlmjcaa.Tape
