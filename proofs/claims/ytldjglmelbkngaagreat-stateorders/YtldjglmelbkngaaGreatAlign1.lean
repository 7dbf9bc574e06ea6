/- An Align in memory, with its clock: the plain functions of its calls; the contracts of hurries, heardStop, aligned, start, of a clock's Stop beside it, of a Proof's Most and Unit. -/
import Derived.Test.YtldjglmelbkngaaGreatFrame
import Derived.Deep.RegionHeld
import Derived.Deep.QuietTactic
import Derived.BigQuiet
namespace Go.Proofs.YtldjglmelbkngaaGreat.Tape
open Go.ChangeShapes Go.WideShapes Go.ChangeAt Go.RowKit
set_option linter.unusedVariables false

/-- What an Align has, and what is left of its clock's timers. -/
structure Al where
  st : Int
  own : Bool
  their : Bool
  hur : Bool
  n : Int
  tries : Int
  t : Nat → Int
  xs : List Int

/-- An Align's cells. -/
def alC (c : Nat) (A : Al) : List Value := [.int .u8 A.st, .bool A.own, .bool A.their, .bool A.hur, .int .i64 A.n, .int .i64 A.tries, .int .i64 (A.t 0), .int .i64 (A.t 1), .int .i64 (A.t 2), .int .i64 (A.t 3), .int .i64 (A.t 4), .int .i64 (A.t 5), .int .i64 (A.t 6), .int .i64 (A.t 7), .pointer (some ⟨c, 0, none⟩)]

/-- Its calls, as plain functions. -/
def Al.stop (A : Al) (js : List Int) : Al := { A with xs := js.foldl stp A.xs }
def Al.go (A : Al) (k : Nat) : Al := { A with xs := A.xs.set k (A.t k) }
def Al.hurries (A : Al) : Bool := A.own || A.their
def Al.prove (A : Al) : Al := ({ A with st := 3, hur := A.hurries, n := 0 }.stop [0, 2, 3, 4]).go (if A.hurries = true then 0 else 4)
def Al.near (A : Al) : Al := ({ A with st := 2 }.stop [0, 2, 4]).go 3
def Al.begin_ (A : Al) : Al := ({ A with st := 1, their := false, tries := 0 }.stop [0, 3, 4]).go 2
def Al.end_ (A : Al) : Al := { A with st := 0, their := false }.stop [0, 2, 3, 4]
def Al.quicken (A : Al) (was : Bool) : Al := if A.st = 3 ∧ A.hurries = true ∧ was = false then A.prove else A
def Al.hurry (A : Al) (on : Bool) : Al := { A with own := on }.quicken A.hurries
def Al.hears (A : Al) (s : Int) : Al := { A with their := A.their || s == 2 }
def Al.heard (A : Al) (s : Int) : Al :=
  if A.st = 0 ∨ s = 3 then A
  else if A.st = 1 then (if s = 0 ∨ s = 1 ∨ s = 2 then (A.hears s).near else A.hears s)
  else if A.st = 2 then (if s = 1 ∨ s = 2 then { A.hears s with tries := 0 }.prove else A.hears s)
  else if s = 0 then (A.hears s).near
  else (A.hears s).quicken A.hurries
def Al.why (A : Al) (s : Int) : Int := if A.st = 0 ∨ A.st = 1 ∨ s ≠ 3 then 0 else 8
def Al.most (A : Al) : Int := if A.hur = true then 1 else 4
def Al.unit (A : Al) (wr : Bool) : Al :=
  if A.st ≠ 3 then A
  else if (A.n + if wr = true then 1 else 0) ≠ A.most then { A with n := A.n + if wr = true then 1 else 0 }
  else if A.tries + 1 ≥ 5 then { A with n := 0, tries := A.tries + 1 }
  else { A with n := 0, tries := A.tries + 1 }.prove
def Al.unitWhy (A : Al) (wr : Bool) : Int := if A.st = 3 ∧ (A.n + if wr = true then 1 else 0) = A.most ∧ A.tries + 1 ≥ 5 then 5 else 0
def Al.proved (A : Al) (k : Int) : Bool := decide (A.st = 3 ∧ (k = 0 ∨ k = 4))
def Al.out (A : Al) (k : Int) : Al := if A.st = 3 ∧ (k = 0 ∨ k = 4) then A.end_ else A
def Al.outWhy (A : Al) (k : Int) : Int := if (A.st = 1 ∧ k = 2) ∨ (A.st = 2 ∧ k = 3) then 7 else 0
def Al.sends (A : Al) : Int := if A.st = 0 then 3 else if A.st = 1 then 0 else if A.own = true then 2 else 1
def Al.tick (A : Al) : Al := { A with xs := A.xs.map tk }

/-- An Align in memory, with its clock. -/
structure AlignAt (w : World) (b c : Nat) (A : Al) : Prop where
  cells : w.heap[b]? = some (.cells (alC c A).toArray 105 (0, 0))
  clock : ClockAt w c A.xs
  ok : ∀ k, 1 ≤ A.t k ∧ A.t k ≤ 4294967296

theorem AlignAt.ne {w : World} {b c : Nat} {A : Al} (h : AlignAt w b c A) : b ≠ c := fun e => by
  have h1 := h.cells
  rw [e, h.clock.cells] at h1
  simp only [Option.some.injEq, Obj.cells.injEq] at h1
  exact absurd h1.2.1 (by decide)
theorem AlignAt.lt {w : World} {b c : Nat} {A : Al} (h : AlignAt w b c A) : b < w.heap.size ∧ c < w.heap.size := ⟨heap_lt h.cells, h.clock.lt⟩
theorem AlignAt.at_ {w w' : World} {b c : Nat} {A : Al} (h : AlignAt w b c A) (hb : w'.heap[b]? = w.heap[b]?) (hc : w'.heap[c]? = w.heap[c]?) : AlignAt w' b c A := ⟨hb.trans h.cells, h.clock.at_ hc, h.ok⟩
theorem AlignAt.keep {w w' : World} {b c : Nat} {A : Al} (h : AlignAt w b c A) (hb : Below w.heap.size w w') : AlignAt w' b c A := h.at_ (hb.block b h.lt.1) (hb.block c h.lt.2)
theorem AlignAt.other {w w' : World} {b c b' c' : Nat} {A : Al} (h : AlignAt w b c A) (hf : Fr b' c' w w') (h1 : b ≠ b' ∧ b ≠ c') (h2 : c ≠ b' ∧ c ≠ c') : AlignAt w' b c A := h.at_ (hf.block b h.lt.1 h1.1 h1.2) (hf.block c h.lt.2 h2.1 h2.2)

/-- What its cells hold. -/
theorem AlignAt.all {w : World} {b c : Nat} {A : Al} (h : AlignAt w b c A) :
    (w.cell? ⟨b, 0, none⟩ = some (.int .u8 A.st) ∧ w.cell? ⟨b, 1, none⟩ = some (.bool A.own) ∧ w.cell? ⟨b, 2, none⟩ = some (.bool A.their) ∧ w.cell? ⟨b, 3, none⟩ = some (.bool A.hur) ∧ w.cell? ⟨b, 4, none⟩ = some (.int .i64 A.n) ∧ w.cell? ⟨b, 5, none⟩ = some (.int .i64 A.tries) ∧
      w.cell? ⟨b, 6, none⟩ = some (.int .i64 (A.t 0)) ∧ w.cell? ⟨b, 8, none⟩ = some (.int .i64 (A.t 2)) ∧ w.cell? ⟨b, 9, none⟩ = some (.int .i64 (A.t 3)) ∧ w.cell? ⟨b, 10, none⟩ = some (.int .i64 (A.t 4)) ∧ w.cell? ⟨b, 14, none⟩ = some (.pointer (some ⟨c, 0, none⟩))) ∧
    ∀ k, w.frozen? ⟨b, k, none⟩ = false := by
  refine ⟨⟨?_, ?_, ?_, ?_, ?_, ?_, ?_, ?_, ?_, ?_, ?_⟩, Lib.frozen_of_heap h.cells⟩ <;> rw [Lib.cell_of_heap h.cells] <;> rfl

/-- One of its cells is written. -/
theorem AlignAt.put {w : World} {b c : Nat} {A A' : Al} (h : AlignAt w b c A) (k : Nat) (v : Value) (e : (alC c A).set k v = alC c A') (hx : A'.xs = A.xs) (ht : A'.t = A.t) : AlignAt (w.setCell ⟨b, k, none⟩ v) b c A' :=
  ⟨by rw [← e]; exact row_set h.cells k v, by rw [hx]; exact h.clock.at_ (Below.heap_setCell _ _ _ _ (Ne.symm h.ne)), by rw [ht]; exact h.ok⟩
theorem AlignAt.drew {w : World} {b c : Nat} {A : Al} (h : AlignAt w b c A) : AlignAt w.drew b c A := h.at_ rfl rfl

theorem hurries_any (b c : Nat) (A : Al) (w : World) (h : AlignAt w b c A) : Calls Tryz.prog 75 #[.pointer (some ⟨b, 0, none⟩)] w fun e w' => e = .returned (.bool A.hurries) ∧ w' = w := by
  obtain ⟨⟨-, c1, c2, -⟩, -⟩ := h.all
  rcases h1 : A.own with _ | _
  · rw [h1] at c1
    have HE : Hid (A.hurries = A.their) := by show _ = _; rw [Al.hurries, h1]; rfl
    clear h h1
    go_enter Tryz.func75, Tryz.ntmps75
    go_wp2
    go_ret
    exact ⟨ret_bool HE.out.symm, rfl⟩
  · rw [h1] at c1
    have HE : Hid (A.hurries = true) := by show _ = _; rw [Al.hurries, h1]; rfl
    clear h h1
    go_enter Tryz.func75, Tryz.ntmps75
    go_wp2
    go_ret
    exact ⟨ret_bool HE.out.symm, rfl⟩

theorem stops_any (b c : Nat) (A : Al) (w : World) (h : AlignAt w b c A) : Calls Tryz.prog 74 #[.pointer (some ⟨b, 0, none⟩)] w fun e w' => e = .returned (.int .u8 (if A.st = 1 then 0 else 8)) ∧ w' = w := by
  obtain ⟨⟨c0, -⟩, -⟩ := h.all
  generalize A.st = st at *
  clear h
  by_cases hs : st = 1
  · subst hs
    go_enter Tryz.func74, Tryz.ntmps74
    go_wp2
    go_ret
    exact ⟨rfl, rfl⟩
  · go_enter Tryz.func74, Tryz.ntmps74
    go_wp2
    go_ret
    exact ⟨rfl, rfl⟩

theorem aligned_any (s : Int) (w : World) : Calls Tryz.prog 76 #[.int .u8 s] w fun e w' => e = .returned (.bool (decide (s = 1 ∨ s = 2))) ∧ w' = w := by
  by_cases h1 : s = 1
  · subst h1
    go_enter Tryz.func76, Tryz.ntmps76
    go_wp2
    go_ret
    exact ⟨rfl, rfl⟩
  · have HE : Hid (decide (s = 1 ∨ s = 2) = (s == 1 || s == 2)) := by
      show _ = _
      rw [Bool.eq_iff_iff, decide_eq_true_iff, Bool.or_eq_true, beq_iff_eq, beq_iff_eq]
    go_enter Tryz.func76, Tryz.ntmps76
    go_wp2
    go_ret
    exact ⟨ret_bool HE.out.symm, rfl⟩

/-- Its clock's Stop, of numbers in a new row. -/
theorem stop_al (b c : Nat) (A : Al) (js : List Int) (n g : Nat) (cs : Array Value) (w : World) (h : AlignAt w b c A) (hg : g = w.heap.size) (hcs : cs = (js.map (Value.int .i64)).toArray) (hn : js.length = n) (hl : n ≤ 8) :
    Calls Tryz.prog 71 #[.pointer (some ⟨c, 0, none⟩), .slice (some ⟨g, 0, none⟩) n n] (w.alloc (.cells cs 3)) fun e w' => e = .returned (.tuple #[]) ∧ AlignAt w' b c (A.stop js) ∧ Fr b c w w' := by
  subst hg hcs
  have hB := (Below.refl w.heap.size w).alloc (Nat.le_refl _) (.cells (js.map (Value.int .i64)).toArray 3)
  have hr : Reads (w.alloc (.cells (js.map (Value.int .i64)).toArray 3)) (some ⟨w.heap.size, 0, none⟩) (js.map (Value.int .i64)) := fun k v hk => by
    refine ⟨w.heap.size, 0, rfl, ?_⟩
    rw [Nat.zero_add, Lib.cell_of_heap (heap_alloc_new w (.cells (js.map (Value.int .i64)).toArray 3))]
    simpa using hk
  have hA := h.keep hB
  refine (stop_any c n n _ A.xs js _ hA.clock hn (by omega) hr (fun x hx => ?_)).mono ?_
  · obtain rfl := Option.some.inj hx
    exact ⟨by simp, by have := h.lt.2; show w.heap.size ≠ c; omega⟩
  · rintro e w' ⟨rfl, hc, hg⟩
    refine ⟨rfl, ⟨(hg.block b hA.lt.1 (by simp only [ne_eq, Option.some.injEq]; exact h.ne)).trans hA.cells, hc, h.ok⟩, (Fr.of_below hB).trans (Fr.of_gb hg (.inr (.inl rfl)))⟩

theorem clock_put {w : World} {b c : Nat} {A : Al} (h : AlignAt w b c A) (k : Nat) (hk : k < 8) : AlignAt (w.setCell ⟨c, k, none⟩ (.int .i64 (A.t k))) b c (A.go k) ∧ Fr b c w (w.setCell ⟨c, k, none⟩ (.int .i64 (A.t k))) :=
  ⟨⟨(Below.heap_setCell _ _ _ _ h.ne).trans h.cells, h.clock.set k _ ⟨by have := (h.ok k).1; omega, (h.ok k).2⟩, h.ok⟩, Fr.of_gb (kgb_set _) (.inr (.inl rfl))⟩

set_option maxRecDepth 100000 in
set_option maxHeartbeats 1000000 in
theorem start_al (b c : Nat) (A : Al) (k : Nat) (hk : k = 0 ∨ k = 2 ∨ k = 3 ∨ k = 4) (w : World) (h : AlignAt w b c A) : Calls Tryz.prog 102 #[.pointer (some ⟨b, 0, none⟩), .int .i64 k] w fun e w' => e = .returned (.tuple #[]) ∧ AlignAt w' b c (A.go k) ∧ Fr b c w w' := by
  have hD := h.drew
  have HP := clock_put hD k (by omega)
  have hst := start_ok c A.xs k (A.t k) w.drew hD.clock (by omega) (h.ok k).1 (h.ok k).2
  have HG : Hid (AlignAt (w.drew.setCell ⟨c, k, none⟩ (.int .i64 (A.t k))) b c (A.go k) ∧ Fr b c w (w.drew.setCell ⟨c, k, none⟩ (.int .i64 (A.t k)))) := ⟨HP.1, (Fr.refl b c w).drew.trans HP.2⟩
  obtain ⟨⟨-, -, -, -, -, -, c6, c8, c9, c10, c14⟩, -⟩ := h.all
  clear h hD HP
  rcases hk with rfl | rfl | rfl | rfl
  · go_enter Tryz.func102, Tryz.ntmps102
    go_region_held (fun W => W.cell? ⟨b, 14, none⟩ = some (.pointer (some ⟨c, 0, none⟩)) ∧ W.cell? ⟨b, 6, none⟩ = some (.int .i64 (A.t 0))) (first | assumption | go_keep)
      (first
      | (go_at_call 113; refine hst.mono ?_; rintro e w1 ⟨rfl, hw1⟩; have hS : w1.cell? ⟨b, 14, none⟩ = some (.pointer (some ⟨c, 0, none⟩)) ∧ w1.cell? ⟨b, 6, none⟩ = some (.int .i64 (A.t 0)) := (by have ha := HG.out.1.all.1; rw [hw1]; exact ⟨ha.2.2.2.2.2.2.2.2.2.2, ha.2.2.2.2.2.2.1⟩); have HW : Hid (w1 = _) := hw1; clear hw1))
    all_goals (go_wp2; refine bodyPost_end (results_none rfl _ _ _) rfl ?_; exact ⟨rfl, by rw [HW.out]; exact HG.out⟩)
  · go_enter Tryz.func102, Tryz.ntmps102
    go_region_held (fun W => W.cell? ⟨b, 14, none⟩ = some (.pointer (some ⟨c, 0, none⟩)) ∧ W.cell? ⟨b, 8, none⟩ = some (.int .i64 (A.t 2))) (first | assumption | go_keep)
      (first
      | (go_at_call 113; refine hst.mono ?_; rintro e w1 ⟨rfl, hw1⟩; have hS : w1.cell? ⟨b, 14, none⟩ = some (.pointer (some ⟨c, 0, none⟩)) ∧ w1.cell? ⟨b, 8, none⟩ = some (.int .i64 (A.t 2)) := (by have ha := HG.out.1.all.1; rw [hw1]; exact ⟨ha.2.2.2.2.2.2.2.2.2.2, ha.2.2.2.2.2.2.2.1⟩); have HW : Hid (w1 = _) := hw1; clear hw1))
    all_goals (go_wp2; refine bodyPost_end (results_none rfl _ _ _) rfl ?_; exact ⟨rfl, by rw [HW.out]; exact HG.out⟩)
  · go_enter Tryz.func102, Tryz.ntmps102
    go_region_held (fun W => W.cell? ⟨b, 14, none⟩ = some (.pointer (some ⟨c, 0, none⟩)) ∧ W.cell? ⟨b, 9, none⟩ = some (.int .i64 (A.t 3))) (first | assumption | go_keep)
      (first
      | (go_at_call 113; refine hst.mono ?_; rintro e w1 ⟨rfl, hw1⟩; have hS : w1.cell? ⟨b, 14, none⟩ = some (.pointer (some ⟨c, 0, none⟩)) ∧ w1.cell? ⟨b, 9, none⟩ = some (.int .i64 (A.t 3)) := (by have ha := HG.out.1.all.1; rw [hw1]; exact ⟨ha.2.2.2.2.2.2.2.2.2.2, ha.2.2.2.2.2.2.2.2.1⟩); have HW : Hid (w1 = _) := hw1; clear hw1))
    all_goals (go_wp2; refine bodyPost_end (results_none rfl _ _ _) rfl ?_; exact ⟨rfl, by rw [HW.out]; exact HG.out⟩)
  · go_enter Tryz.func102, Tryz.ntmps102
    go_region_held (fun W => W.cell? ⟨b, 14, none⟩ = some (.pointer (some ⟨c, 0, none⟩)) ∧ W.cell? ⟨b, 10, none⟩ = some (.int .i64 (A.t 4))) (first | assumption | go_keep)
      (first
      | (go_at_call 113; refine hst.mono ?_; rintro e w1 ⟨rfl, hw1⟩; have hS : w1.cell? ⟨b, 14, none⟩ = some (.pointer (some ⟨c, 0, none⟩)) ∧ w1.cell? ⟨b, 10, none⟩ = some (.int .i64 (A.t 4)) := (by have ha := HG.out.1.all.1; rw [hw1]; exact ⟨ha.2.2.2.2.2.2.2.2.2.2, ha.2.2.2.2.2.2.2.2.2.1⟩); have HW : Hid (w1 = _) := hw1; clear hw1))
    all_goals (go_wp2; refine bodyPost_end (results_none rfl _ _ _) rfl ?_; exact ⟨rfl, by rw [HW.out]; exact HG.out⟩)

set_option maxRecDepth 100000 in
theorem pmost_any (hur : Bool) (n t : Int) (w : World) : Calls Tryz.prog 114 #[.agg #[.bool hur, .int .i64 n, .int .i64 t]] w fun e w' => e = .returned (.int .i64 (if hur = true then 1 else 4)) ∧ Below w.heap.size w w' := by
  cases hur
  all_goals (go_enter Tryz.func114, Tryz.ntmps114; go_wp2; go_ret; exact ⟨rfl, (Below.refl _ _).alloc (Nat.le_refl _) _⟩)

/-- A Proof's Unit, as a plain function: what is counted, is it given up, is that too often. -/
def prf (hur : Bool) (n t : Int) (wr : Bool) : Value :=
  if (n + if wr = true then 1 else 0) ≠ (if hur = true then 1 else 4) then .tuple #[.agg #[.bool hur, .int .i64 (n + if wr = true then 1 else 0), .int .i64 t], .bool false, .bool false]
  else .tuple #[.agg #[.bool hur, .int .i64 0, .int .i64 (t + 1)], .bool true, .bool (decide (t + 1 ≥ 5))]
end Go.Proofs.YtldjglmelbkngaaGreat.Tape
