/- A Jam in memory, with its clock: the plain functions of its calls; the contracts of start, say, Begin, End, Due, Heard, Answer, Out, Clear, New; of a nil one; of a clock's Tick beside it. -/
import Derived.Test.YtldjglmelbkngaaGreatFrame
import Derived.Deep.RegionHeld
namespace Go.Proofs.YtldjglmelbkngaaGreat.Tape
open Go.ChangeShapes Go.WideShapes Go.ChangeAt Go.RowKit
set_option linter.unusedVariables false

/-- What a Jam has, and what is left of its clock's timers. -/
structure Ja where
  own : Bool
  their : Bool
  due : Bool
  t : Nat → Int
  xs : List Int

/-- A Jam's cells. -/
def jaC (c : Nat) (J : Ja) : List Value := [.bool J.own, .bool J.their, .bool J.due, .int .i64 (J.t 0), .int .i64 (J.t 1), .int .i64 (J.t 2), .int .i64 (J.t 3), .int .i64 (J.t 4), .int .i64 (J.t 5), .int .i64 (J.t 6), .int .i64 (J.t 7), .pointer (some ⟨c, 0, none⟩)]

/-- Its calls, as plain functions. -/
def Ja.stop (J : Ja) (js : List Int) : Ja := { J with xs := js.foldl stp J.xs }
def Ja.go (J : Ja) (k : Nat) : Ja := { J with xs := J.xs.set k (J.t k) }
def Ja.say (J : Ja) : Ja := { J with due := true }.go 5
def Ja.begin_ (J : Ja) : Ja := if J.own = true then J else { J with own := true }.say
def Ja.end_ (J : Ja) : Ja := { J with own := false, due := false }.stop [5]
def Ja.told (J : Ja) : Ja := { J with due := false }
def Ja.waits (J : Ja) (waits : Bool) : Ja := if waits = true then J.go 7 else J
def Ja.heard (J : Ja) (waits : Bool) : Ja := if J.their = true then J.waits waits else { J.waits waits with their := true }.go 6
def Ja.answer (J : Ja) : Ja := if J.their = true then { J with their := false }.stop [6] else J
def Ja.out (J : Ja) (k : Int) : Ja := if k = 5 ∧ J.own = true then J.say else J
def Ja.why (J : Ja) (k : Int) : Int := if k = 6 ∧ J.their = true then 3 else 0
def Ja.clear (J : Ja) : Ja := { J with own := false, their := false, due := false }.stop [5, 6]
def Ja.tick (J : Ja) : Ja := { J with xs := J.xs.map tk }

/-- A Jam in memory, with its clock. -/
structure JamAt (w : World) (b c : Nat) (J : Ja) : Prop where
  cells : w.heap[b]? = some (.cells (jaC c J).toArray 55 (0, 0))
  clock : ClockAt w c J.xs
  ok : ∀ k, 1 ≤ J.t k ∧ J.t k ≤ 4294967296

theorem JamAt.ne {w : World} {b c : Nat} {J : Ja} (h : JamAt w b c J) : b ≠ c := fun e => by
  have h1 := h.cells
  rw [e, h.clock.cells] at h1
  simp only [Option.some.injEq, Obj.cells.injEq] at h1
  exact absurd h1.2.1 (by decide)
theorem JamAt.lt {w : World} {b c : Nat} {J : Ja} (h : JamAt w b c J) : b < w.heap.size ∧ c < w.heap.size := ⟨heap_lt h.cells, h.clock.lt⟩
theorem JamAt.at_ {w w' : World} {b c : Nat} {J : Ja} (h : JamAt w b c J) (hb : w'.heap[b]? = w.heap[b]?) (hc : w'.heap[c]? = w.heap[c]?) : JamAt w' b c J := ⟨hb.trans h.cells, h.clock.at_ hc, h.ok⟩
theorem JamAt.keep {w w' : World} {b c : Nat} {J : Ja} (h : JamAt w b c J) (hb : Below w.heap.size w w') : JamAt w' b c J := h.at_ (hb.block b h.lt.1) (hb.block c h.lt.2)

/-- What its cells hold. -/
theorem JamAt.all {w : World} {b c : Nat} {J : Ja} (h : JamAt w b c J) :
    (w.cell? ⟨b, 0, none⟩ = some (.bool J.own) ∧ w.cell? ⟨b, 1, none⟩ = some (.bool J.their) ∧ w.cell? ⟨b, 2, none⟩ = some (.bool J.due) ∧ w.cell? ⟨b, 8, none⟩ = some (.int .i64 (J.t 5)) ∧ w.cell? ⟨b, 9, none⟩ = some (.int .i64 (J.t 6)) ∧ w.cell? ⟨b, 10, none⟩ = some (.int .i64 (J.t 7)) ∧ w.cell? ⟨b, 11, none⟩ = some (.pointer (some ⟨c, 0, none⟩))) ∧
    ∀ k, w.frozen? ⟨b, k, none⟩ = false := by
  refine ⟨⟨?_, ?_, ?_, ?_, ?_, ?_, ?_⟩, Lib.frozen_of_heap h.cells⟩ <;> rw [Lib.cell_of_heap h.cells] <;> rfl

/-- One of its cells is written. -/
theorem JamAt.put {w : World} {b c : Nat} {J J' : Ja} (h : JamAt w b c J) (k : Nat) (v : Value) (e : (jaC c J).set k v = jaC c J') (hx : J'.xs = J.xs) (ht : J'.t = J.t) : JamAt (w.setCell ⟨b, k, none⟩ v) b c J' :=
  ⟨by rw [← e]; exact row_set h.cells k v, by rw [hx]; exact h.clock.at_ (Below.heap_setCell _ _ _ _ (Ne.symm h.ne)), by rw [ht]; exact h.ok⟩
theorem JamAt.drew {w : World} {b c : Nat} {J : Ja} (h : JamAt w b c J) : JamAt w.drew b c J := h.at_ rfl rfl

/-- Its clock's Stop, of numbers in a new row. -/
theorem stop_ja (b c : Nat) (J : Ja) (js : List Int) (n g : Nat) (cs : Array Value) (w : World) (h : JamAt w b c J) (hg : g = w.heap.size) (hcs : cs = (js.map (Value.int .i64)).toArray) (hn : js.length = n) (hl : n ≤ 8) :
    Calls Tryz.prog 71 #[.pointer (some ⟨c, 0, none⟩), .slice (some ⟨g, 0, none⟩) n n] (w.alloc (.cells cs 3)) fun e w' => e = .returned (.tuple #[]) ∧ JamAt w' b c (J.stop js) ∧ Fr b c w w' := by
  subst hg hcs
  have hB := (Below.refl w.heap.size w).alloc (Nat.le_refl _) (.cells (js.map (Value.int .i64)).toArray 3)
  have hr : Reads (w.alloc (.cells (js.map (Value.int .i64)).toArray 3)) (some ⟨w.heap.size, 0, none⟩) (js.map (Value.int .i64)) := fun k v hk => by
    refine ⟨w.heap.size, 0, rfl, ?_⟩
    rw [Nat.zero_add, Lib.cell_of_heap (heap_alloc_new w (.cells (js.map (Value.int .i64)).toArray 3))]
    simpa using hk
  have hA := h.keep hB
  refine (stop_any c n n _ J.xs js _ hA.clock hn (by omega) hr (fun x hx => ?_)).mono ?_
  · obtain rfl := Option.some.inj hx
    exact ⟨by simp, by have := h.lt.2; show w.heap.size ≠ c; omega⟩
  · rintro e w' ⟨rfl, hc, hg⟩
    refine ⟨rfl, ⟨(hg.block b hA.lt.1 (by simp only [ne_eq, Option.some.injEq]; exact h.ne)).trans hA.cells, hc, h.ok⟩, (Fr.of_below hB).trans (Fr.of_gb hg (.inr (.inl rfl)))⟩

theorem jclock_put {w : World} {b c : Nat} {J : Ja} (h : JamAt w b c J) (k : Nat) (hk : k < 8) : JamAt (w.setCell ⟨c, k, none⟩ (.int .i64 (J.t k))) b c (J.go k) ∧ Fr b c w (w.setCell ⟨c, k, none⟩ (.int .i64 (J.t k))) :=
  ⟨⟨(Below.heap_setCell _ _ _ _ h.ne).trans h.cells, h.clock.set k _ ⟨by have := (h.ok k).1; omega, (h.ok k).2⟩, h.ok⟩, Fr.of_gb (kgb_set _) (.inr (.inl rfl))⟩

set_option maxRecDepth 100000 in
set_option maxHeartbeats 1000000 in
theorem start_ja (b c : Nat) (J : Ja) (k : Nat) (hk : k = 5 ∨ k = 6 ∨ k = 7) (w : World) (h : JamAt w b c J) : Calls Tryz.prog 104 #[.pointer (some ⟨b, 0, none⟩), .int .i64 k] w fun e w' => e = .returned (.tuple #[]) ∧ JamAt w' b c (J.go k) ∧ Fr b c w w' := by
  have hD := h.drew
  have HP := jclock_put hD k (by omega)
  have hst := start_ok c J.xs k (J.t k) w.drew hD.clock (by omega) (h.ok k).1 (h.ok k).2
  have HG : Hid (JamAt (w.drew.setCell ⟨c, k, none⟩ (.int .i64 (J.t k))) b c (J.go k) ∧ Fr b c w (w.drew.setCell ⟨c, k, none⟩ (.int .i64 (J.t k)))) := ⟨HP.1, (Fr.refl b c w).drew.trans HP.2⟩
  obtain ⟨⟨-, -, -, c8, c9, c10, c11⟩, -⟩ := h.all
  clear h hD HP
  rcases hk with rfl | rfl | rfl
  · go_enter Tryz.func104, Tryz.ntmps104
    go_region_held (fun W => W.cell? ⟨b, 11, none⟩ = some (.pointer (some ⟨c, 0, none⟩)) ∧ W.cell? ⟨b, 8, none⟩ = some (.int .i64 (J.t 5))) (first | assumption | go_keep)
      (first
      | (go_at_call 113; refine hst.mono ?_; rintro e w1 ⟨rfl, hw1⟩; have hS : w1.cell? ⟨b, 11, none⟩ = some (.pointer (some ⟨c, 0, none⟩)) ∧ w1.cell? ⟨b, 8, none⟩ = some (.int .i64 (J.t 5)) := (by have ha := HG.out.1.all.1; rw [hw1]; exact ⟨ha.2.2.2.2.2.2, ha.2.2.2.1⟩); have HW : Hid (w1 = _) := hw1; clear hw1))
    all_goals (go_wp2; refine bodyPost_end (results_none rfl _ _ _) rfl ?_; exact ⟨rfl, by rw [HW.out]; exact HG.out⟩)
  · go_enter Tryz.func104, Tryz.ntmps104
    go_region_held (fun W => W.cell? ⟨b, 11, none⟩ = some (.pointer (some ⟨c, 0, none⟩)) ∧ W.cell? ⟨b, 9, none⟩ = some (.int .i64 (J.t 6))) (first | assumption | go_keep)
      (first
      | (go_at_call 113; refine hst.mono ?_; rintro e w1 ⟨rfl, hw1⟩; have hS : w1.cell? ⟨b, 11, none⟩ = some (.pointer (some ⟨c, 0, none⟩)) ∧ w1.cell? ⟨b, 9, none⟩ = some (.int .i64 (J.t 6)) := (by have ha := HG.out.1.all.1; rw [hw1]; exact ⟨ha.2.2.2.2.2.2, ha.2.2.2.2.1⟩); have HW : Hid (w1 = _) := hw1; clear hw1))
    all_goals (go_wp2; refine bodyPost_end (results_none rfl _ _ _) rfl ?_; exact ⟨rfl, by rw [HW.out]; exact HG.out⟩)
  · go_enter Tryz.func104, Tryz.ntmps104
    go_region_held (fun W => W.cell? ⟨b, 11, none⟩ = some (.pointer (some ⟨c, 0, none⟩)) ∧ W.cell? ⟨b, 10, none⟩ = some (.int .i64 (J.t 7))) (first | assumption | go_keep)
      (first
      | (go_at_call 113; refine hst.mono ?_; rintro e w1 ⟨rfl, hw1⟩; have hS : w1.cell? ⟨b, 11, none⟩ = some (.pointer (some ⟨c, 0, none⟩)) ∧ w1.cell? ⟨b, 10, none⟩ = some (.int .i64 (J.t 7)) := (by have ha := HG.out.1.all.1; rw [hw1]; exact ⟨ha.2.2.2.2.2.2, ha.2.2.2.2.2.1⟩); have HW : Hid (w1 = _) := hw1; clear hw1))
    all_goals (go_wp2; refine bodyPost_end (results_none rfl _ _ _) rfl ?_; exact ⟨rfl, by rw [HW.out]; exact HG.out⟩)

set_option maxRecDepth 100000 in
set_option maxHeartbeats 1000000 in
theorem say_ja (b c : Nat) (J : Ja) (w : World) (h : JamAt w b c J) : Calls Tryz.prog 110 #[.pointer (some ⟨b, 0, none⟩)] w fun e w' => e = .returned (.tuple #[]) ∧ JamAt w' b c J.say ∧ Fr b c w w' := by
  have h1 := h.put (J' := { J with due := true }) 2 (.bool true) rfl rfl rfl
  have HF1 : Hid (Fr b c w (w.setCell ⟨b, 2, none⟩ (.bool true))) := (Fr.refl b c w).set 2 _
  have hgo := start_ja b c _ 5 (by omega) _ h1
  obtain ⟨⟨-, -, c2, -⟩, hz⟩ := h.all
  have z2 := hz 2
  clear h hz h1
  go_enter Tryz.func110, Tryz.ntmps110
  go_wp2_with (go_at_call 104; refine hgo.mono ?_; rintro e w2 ⟨rfl, h2, hF2⟩)
  refine bodyPost_end (results_none rfl _ _ _) rfl ?_
  exact ⟨rfl, h2, HF1.out.trans hF2⟩

set_option maxRecDepth 100000 in
set_option maxHeartbeats 1000000 in
theorem begin_ja (b c : Nat) (J : Ja) (w : World) (h : JamAt w b c J) : Calls Tryz.prog 92 #[.pointer (some ⟨b, 0, none⟩)] w fun e w' => e = .returned (.tuple #[]) ∧ JamAt w' b c J.begin_ ∧ Fr b c w w' := by
  obtain ⟨⟨c0, -⟩, hz⟩ := h.all
  have z0 := hz 0
  rcases (by decide : ∀ b : Bool, b = true ∨ b = false) J.own with ho | ho
  · rw [ho] at c0
    have HJ : Hid (J.begin_ = J) := by show _ = _; unfold Ja.begin_; rw [if_pos ho]
    have HA : Hid (JamAt w b c J) := h
    clear h hz ho
    go_enter Tryz.func92, Tryz.ntmps92
    go_wp2
    refine bodyPost_ret (v := .tuple #[]) (by simp [results, Tryz.results92, go_sem]) rfl ?_
    exact ⟨rfl, by rw [HJ.out]; exact HA.out, Fr.refl _ _ _⟩
  · rw [ho] at c0
    have HJ : Hid (J.begin_ = { J with own := true }.say) := by show _ = _; unfold Ja.begin_; rw [if_neg (by rw [ho]; decide)]
    have h1 := h.put (J' := { J with own := true }) 0 (.bool true) rfl rfl rfl
    have HF1 : Hid (Fr b c w (w.setCell ⟨b, 0, none⟩ (.bool true))) := (Fr.refl b c w).set 0 _
    have hgo := say_ja b c _ _ h1
    clear h hz ho h1
    go_enter Tryz.func92, Tryz.ntmps92
    go_wp2_with (go_at_call 110; refine hgo.mono ?_; rintro e w2 ⟨rfl, h2, hF2⟩)
    refine bodyPost_end (results_none rfl _ _ _) rfl ?_
    exact ⟨rfl, by rw [HJ.out]; exact h2, HF1.out.trans hF2⟩

set_option maxRecDepth 100000 in
set_option maxHeartbeats 1000000 in
theorem end_ja (b c : Nat) (J : Ja) (w : World) (h : JamAt w b c J) : Calls Tryz.prog 93 #[.pointer (some ⟨b, 0, none⟩)] w fun e w' => e = .returned (.tuple #[]) ∧ JamAt w' b c J.end_ ∧ Fr b c w w' := by
  have h1 := (h.put (J' := { J with own := false }) 0 (.bool false) rfl rfl rfl).put (J' := { J with own := false, due := false }) 2 (.bool false) rfl rfl rfl
  have HF1 : Hid (Fr b c w ((w.setCell ⟨b, 0, none⟩ (.bool false)).setCell ⟨b, 2, none⟩ (.bool false))) := ((Fr.refl b c w).set 0 _).set 2 _
  have hst := stop_ja b c { J with own := false, due := false } [5] 1 w.heap.size #[.int .i64 5] _ h1 (by simp [World.setCell]) rfl rfl (by omega)
  obtain ⟨⟨c0, -, c2, -, -, -, c11⟩, hz⟩ := h.all
  have z0 := hz 0
  have z2 := hz 2
  clear h hz h1
  go_enter Tryz.func93, Tryz.ntmps93
  go_wp2_with (go_at_call 71; refine hst.mono ?_; rintro e w1 ⟨rfl, h1, hF1⟩)
  refine bodyPost_end (results_none rfl _ _ _) rfl ?_
  exact ⟨rfl, h1, HF1.out.trans hF1⟩

set_option maxRecDepth 100000 in
set_option maxHeartbeats 1000000 in
theorem clear_ja (b c : Nat) (J : Ja) (w : World) (h : JamAt w b c J) : Calls Tryz.prog 62 #[.pointer (some ⟨b, 0, none⟩)] w fun e w' => e = .returned (.tuple #[]) ∧ JamAt w' b c J.clear ∧ Fr b c w w' := by
  have h1 := ((h.put (J' := { J with own := false }) 0 (.bool false) rfl rfl rfl).put (J' := { J with own := false, their := false }) 1 (.bool false) rfl rfl rfl).put (J' := { J with own := false, their := false, due := false }) 2 (.bool false) rfl rfl rfl
  have HF1 : Hid (Fr b c w (((w.setCell ⟨b, 0, none⟩ (.bool false)).setCell ⟨b, 1, none⟩ (.bool false)).setCell ⟨b, 2, none⟩ (.bool false))) := (((Fr.refl b c w).set 0 _).set 1 _).set 2 _
  have hst := stop_ja b c { J with own := false, their := false, due := false } [5, 6] 2 w.heap.size #[.int .i64 5, .int .i64 6] _ h1 (by simp [World.setCell]) rfl rfl (by omega)
  obtain ⟨⟨c0, c1, c2, -, -, -, c11⟩, hz⟩ := h.all
  have z0 := hz 0
  have z1 := hz 1
  have z2 := hz 2
  clear h hz h1
  go_enter Tryz.func62, Tryz.ntmps62
  go_wp2_with (go_at_call 71; refine hst.mono ?_; rintro e w1 ⟨rfl, h1, hF1⟩)
  refine bodyPost_end (results_none rfl _ _ _) rfl ?_
  exact ⟨rfl, h1, HF1.out.trans hF1⟩

set_option maxRecDepth 100000 in
set_option maxHeartbeats 1000000 in
theorem due_ja (b c : Nat) (J : Ja) (w : World) (h : JamAt w b c J) : Calls Tryz.prog 68 #[.pointer (some ⟨b, 0, none⟩)] w fun e w' => e = .returned (.bool J.due) ∧ JamAt w' b c J.told ∧ Fr b c w w' := by
  have h1 := h.put (J' := J.told) 2 (.bool false) rfl rfl rfl
  have HF1 : Hid (Fr b c w (w.setCell ⟨b, 2, none⟩ (.bool false))) := (Fr.refl b c w).set 2 _
  have H1 : Hid (JamAt (w.setCell ⟨b, 2, none⟩ (.bool false)) b c J.told) := h1
  obtain ⟨⟨-, -, c2, -⟩, hz⟩ := h.all
  have z2 := hz 2
  generalize J.due = d at *
  clear h hz h1
  go_enter Tryz.func68, Tryz.ntmps68
  go_wp2
  go_ret
  exact ⟨rfl, H1.out, HF1.out⟩

set_option maxRecDepth 100000 in
set_option maxHeartbeats 1000000 in
theorem heard_ja (b c : Nat) (J : Ja) (waits : Bool) (w : World) (h : JamAt w b c J) : Calls Tryz.prog 82 #[.pointer (some ⟨b, 0, none⟩), .bool waits] w fun e w' => e = .returned (.bool (!J.their)) ∧ JamAt w' b c (J.heard waits) ∧ Fr b c w w' := by
  have HX : Hid (J.heard waits = if J.their = true then J.waits waits else { J.waits waits with their := true }.go 6) := rfl
  generalize J.heard waits = R at *
  cases waits
  · rw [show Ja.waits J false = J from rfl] at HX
    rcases (by decide : ∀ b : Bool, b = true ∨ b = false) J.their with ho | ho
    · have HJ : Hid (R = J) := by have := HX.out; rwa [if_pos ho] at this
      obtain ⟨⟨-, c1, -⟩, -⟩ := h.all
      rw [ho] at c1 ⊢
      have HA : Hid (JamAt w b c J) := h
      clear h HX ho
      go_enter Tryz.func82, Tryz.ntmps82
      go_wp2
      go_ret
      exact ⟨rfl, by rw [HJ.out]; exact HA.out, Fr.refl _ _ _⟩
    · have HJ : Hid (R = { J with their := true }.go 6) := by have := HX.out; rwa [if_neg (by rw [ho]; decide)] at this
      have h1 := h.put (J' := { J with their := true }) 1 (.bool true) rfl rfl rfl
      have HF1 : Hid (Fr b c w (w.setCell ⟨b, 1, none⟩ (.bool true))) := (Fr.refl b c w).set 1 _
      have hgo := start_ja b c _ 6 (by omega) _ h1
      obtain ⟨⟨-, c1, -⟩, hz⟩ := h.all
      have z1 := hz 1
      rw [ho] at c1 ⊢
      clear h HX ho hz h1
      go_enter Tryz.func82, Tryz.ntmps82
      go_wp2_with (go_at_call 104; refine hgo.mono ?_; rintro e w2 ⟨rfl, h2, hF2⟩)
      go_ret
      exact ⟨rfl, by rw [HJ.out]; exact h2, HF1.out.trans hF2⟩
  · rw [show Ja.waits J true = J.go 7 from rfl] at HX
    have hg7 := start_ja b c _ 7 (by omega) _ h
    rcases (by decide : ∀ b : Bool, b = true ∨ b = false) J.their with ho | ho
    · have HJ : Hid (R = J.go 7) := by have := HX.out; rwa [if_pos ho] at this
      rw [ho]
      have HO : Hid (J.their = true) := ho
      clear h HX ho
      go_enter Tryz.func82, Tryz.ntmps82
      go_wp2_with (go_at_call 104; refine hg7.mono ?_; rintro e w2 ⟨rfl, h2, hF2⟩; have c1 := h2.all.1.2.1; rw [show (J.go 7).their = J.their from rfl, HO.out] at c1)
      go_ret
      exact ⟨rfl, by rw [HJ.out]; exact h2, hF2⟩
    · have HJ : Hid (R = { J.go 7 with their := true }.go 6) := by have := HX.out; rwa [if_neg (by rw [ho]; decide)] at this
      rw [ho]
      have HO : Hid (J.their = false) := ho
      clear h HX ho
      go_enter Tryz.func82, Tryz.ntmps82
      go_wp2_with fail
      refine hg7.mono ?_
      rintro e w2 ⟨rfl, h2, hF2⟩
      have c1 := h2.all.1.2.1
      rw [show (J.go 7).their = J.their from rfl, HO.out] at c1
      have z1 := h2.all.2 1
      have h3 := h2.put (J' := { J.go 7 with their := true }) 1 (.bool true) rfl rfl rfl
      have HF3 : Hid (Fr b c w (w2.setCell ⟨b, 1, none⟩ (.bool true))) := hF2.set 1 _
      have hgo := start_ja b c _ 6 (by omega) _ h3
      clear hg7 h2 hF2 h3
      go_wp2_with (go_at_call 104; refine hgo.mono ?_; rintro e w4 ⟨rfl, h4, hF4⟩)
      go_ret
      exact ⟨rfl, by rw [HJ.out]; exact h4, HF3.out.trans hF4⟩

set_option maxRecDepth 100000 in
set_option maxHeartbeats 1000000 in
theorem answer_ja (b c : Nat) (J : Ja) (w : World) (h : JamAt w b c J) : Calls Tryz.prog 107 #[.pointer (some ⟨b, 0, none⟩)] w fun e w' => e = .returned (.bool J.their) ∧ JamAt w' b c J.answer ∧ Fr b c w w' := by
  obtain ⟨⟨-, c1, -, -, -, -, c11⟩, hz⟩ := h.all
  have z1 := hz 1
  rcases (by decide : ∀ b : Bool, b = true ∨ b = false) J.their with ho | ho
  · rw [ho] at c1 ⊢
    have HJ : Hid (J.answer = { J with their := false }.stop [6]) := by show _ = _; unfold Ja.answer; rw [if_pos ho]
    have h1 := h.put (J' := { J with their := false }) 1 (.bool false) rfl rfl rfl
    have HF1 : Hid (Fr b c w (w.setCell ⟨b, 1, none⟩ (.bool false))) := (Fr.refl b c w).set 1 _
    have hst := stop_ja b c { J with their := false } [6] 1 w.heap.size #[.int .i64 6] _ h1 (by simp [World.setCell]) rfl rfl (by omega)
    clear h hz ho h1
    go_enter Tryz.func107, Tryz.ntmps107
    go_wp2_with (go_at_call 71; refine hst.mono ?_; rintro e w1 ⟨rfl, h1, hF1⟩)
    go_ret
    exact ⟨rfl, by rw [HJ.out]; exact h1, HF1.out.trans hF1⟩
  · rw [ho] at c1 ⊢
    have HJ : Hid (J.answer = J) := by show _ = _; unfold Ja.answer; rw [if_neg (by rw [ho]; decide)]
    have HA : Hid (JamAt w b c J) := h
    clear h hz ho
    go_enter Tryz.func107, Tryz.ntmps107
    go_wp2
    go_ret
    exact ⟨rfl, by rw [HJ.out]; exact HA.out, Fr.refl _ _ _⟩

set_option maxRecDepth 100000 in
set_option maxHeartbeats 1000000 in
theorem out_ja (b c : Nat) (J : Ja) (k : Int) (w : World) (h : JamAt w b c J) : Calls Tryz.prog 95 #[.pointer (some ⟨b, 0, none⟩), .int .i64 k] w fun e w' => e = .returned (.int .u8 (J.why k)) ∧ JamAt w' b c (J.out k) ∧ Fr b c w w' := by
  obtain ⟨⟨c0, c1, -⟩, -⟩ := h.all
  have hsy := say_ja b c J w h
  have HA : Hid (JamAt w b c J) := h
  have HX : Hid (J.why k = (if k = 6 ∧ J.their = true then 3 else 0) ∧ J.out k = if k = 5 ∧ J.own = true then J.say else J) := ⟨rfl, rfl⟩
  generalize J.why k = v at *
  generalize J.out k = R at *
  generalize J.own = o at *
  generalize J.their = q at *
  clear h
  by_cases h5 : k = 5
  · subst h5
    cases o
    · have HE : Hid (v = 0 ∧ R = J) := by obtain ⟨h1, h2⟩ := HX.out; exact ⟨by simp [h1], by simp [h2]⟩
      clear HX hsy
      go_enter Tryz.func95, Tryz.ntmps95
      go_wp2
      go_ret
      obtain ⟨rfl, rfl⟩ := HE.out
      exact ⟨rfl, HA.out, Fr.refl _ _ _⟩
    · have HE : Hid (v = 0 ∧ R = J.say) := by obtain ⟨h1, h2⟩ := HX.out; exact ⟨by simp [h1], by simp [h2]⟩
      clear HX
      go_enter Tryz.func95, Tryz.ntmps95
      go_wp2_with (go_at_call 110; refine hsy.mono ?_; rintro e w2 ⟨rfl, h2, hF2⟩)
      go_ret
      obtain ⟨rfl, rfl⟩ := HE.out
      exact ⟨rfl, h2, hF2⟩
  · by_cases h6 : k = 6
    · subst h6
      cases q
      · have HE : Hid (v = 0 ∧ R = J) := by obtain ⟨h1, h2⟩ := HX.out; exact ⟨by simp [h1], by simp [h2]⟩
        clear HX hsy
        go_enter Tryz.func95, Tryz.ntmps95
        go_wp2
        go_ret
        obtain ⟨rfl, rfl⟩ := HE.out
        exact ⟨rfl, HA.out, Fr.refl _ _ _⟩
      · have HE : Hid (v = 3 ∧ R = J) := by obtain ⟨h1, h2⟩ := HX.out; exact ⟨by simp [h1], by simp [h2]⟩
        clear HX hsy
        go_enter Tryz.func95, Tryz.ntmps95
        go_wp2
        go_ret
        obtain ⟨rfl, rfl⟩ := HE.out
        exact ⟨rfl, HA.out, Fr.refl _ _ _⟩
    · have HE : Hid (v = 0 ∧ R = J) := by obtain ⟨e1, e2⟩ := HX.out; exact ⟨by rw [e1, if_neg (fun e => h6 e.1)], by rw [e2, if_neg (fun e => h5 e.1)]⟩
      have k5 : (k == 5) = false := by rw [beq_eq_false_iff_ne]; exact h5
      have k6 : (k == 6) = false := by rw [beq_eq_false_iff_ne]; exact h6
      clear HX hsy
      go_enter Tryz.func95, Tryz.ntmps95
      go_wp2
      go_ret
      obtain ⟨rfl, rfl⟩ := HE.out
      exact ⟨rfl, HA.out, Fr.refl _ _ _⟩

/-- A new Jam. -/
def ja0 (t : Nat → Int) (xs : List Int) : Ja := ⟨false, false, false, t, xs⟩

set_option maxRecDepth 100000 in
set_option maxHeartbeats 1000000 in
theorem janew_any (c : Nat) (cy : Bool) (n1 n2 ho oc : Int) (t : Nat → Int) (xs : List Int) (w : World) (hc : ClockAt w c xs) (ht : ∀ k, 1 ≤ t k ∧ t k ≤ 4294967296) :
    Calls Tryz.prog 38 #[.agg #[.bool cy, .int .i64 n1, .int .i64 n2, .int .i64 ho, .int .i64 oc, .int .i64 (t 0), .int .i64 (t 1), .int .i64 (t 2), .int .i64 (t 3), .int .i64 (t 4), .int .i64 (t 5), .int .i64 (t 6), .int .i64 (t 7)], .pointer (some ⟨c, 0, none⟩)] w
      fun e w' => ∃ b, e = .returned (.pointer (some ⟨b, 0, none⟩)) ∧ w.heap.size ≤ b ∧ JamAt w' b c (ja0 t xs) ∧ Below w.heap.size w w' := by
  have HC : Hid (ClockAt w c xs) := hc
  have HT : Hid (∀ k, 1 ≤ t k ∧ t k ≤ 4294967296) := ht
  clear hc ht
  go_enter Tryz.func38, Tryz.ntmps38
  go_wp2
  go_ret
  have hB := ((Below.refl w.heap.size w).alloc (Nat.le_refl _) (.cells #[.bool cy, .int .i64 n1, .int .i64 n2, .int .i64 ho, .int .i64 oc, .int .i64 (t 0), .int .i64 (t 1), .int .i64 (t 2), .int .i64 (t 3), .int .i64 (t 4), .int .i64 (t 5), .int .i64 (t 6), .int .i64 (t 7)] 28))
  have hB2 := hB.alloc hB.size (.cells (jaC c (ja0 t xs)).toArray 55)
  refine ⟨w.heap.size + 1, rfl, Nat.le_succ _, ⟨?_, HC.out.keep hB2, HT.out⟩, hB2⟩
  have := heap_alloc_new (w.alloc (.cells #[.bool cy, .int .i64 n1, .int .i64 n2, .int .i64 ho, .int .i64 oc, .int .i64 (t 0), .int .i64 (t 1), .int .i64 (t 2), .int .i64 (t 3), .int .i64 (t 4), .int .i64 (t 5), .int .i64 (t 6), .int .i64 (t 7)] 28)) (.cells (jaC c (ja0 t xs)).toArray 55)
  rwa [show (w.alloc (.cells #[.bool cy, .int .i64 n1, .int .i64 n2, .int .i64 ho, .int .i64 oc, .int .i64 (t 0), .int .i64 (t 1), .int .i64 (t 2), .int .i64 (t 3), .int .i64 (t 4), .int .i64 (t 5), .int .i64 (t 6), .int .i64 (t 7)] 28)).heap.size = w.heap.size + 1 by simp] at this

theorem ja_begin_nil (w : World) : Calls Tryz.prog 92 #[.pointer none] w fun e w' => e = .returned (.tuple #[]) ∧ w' = w := by
  go_enter Tryz.func92, Tryz.ntmps92
  go_wp2
  refine bodyPost_ret (v := .tuple #[]) (by simp [results, Tryz.results92, go_sem]) rfl ?_
  exact ⟨rfl, rfl⟩
theorem ja_end_nil (w : World) : Calls Tryz.prog 93 #[.pointer none] w fun e w' => e = .returned (.tuple #[]) ∧ w' = w := by
  go_enter Tryz.func93, Tryz.ntmps93
  go_wp2
  refine bodyPost_ret (v := .tuple #[]) (by simp [results, Tryz.results93, go_sem]) rfl ?_
  exact ⟨rfl, rfl⟩
theorem ja_clear_nil (w : World) : Calls Tryz.prog 62 #[.pointer none] w fun e w' => e = .returned (.tuple #[]) ∧ w' = w := by
  go_enter Tryz.func62, Tryz.ntmps62
  go_wp2
  refine bodyPost_ret (v := .tuple #[]) (by simp [results, Tryz.results62, go_sem]) rfl ?_
  exact ⟨rfl, rfl⟩
theorem ja_due_nil (w : World) : Calls Tryz.prog 68 #[.pointer none] w fun e w' => e = .returned (.bool false) ∧ w' = w := by
  go_enter Tryz.func68, Tryz.ntmps68
  go_wp2
  go_ret
  exact ⟨rfl, rfl⟩
theorem ja_heard_nil (waits : Bool) (w : World) : Calls Tryz.prog 82 #[.pointer none, .bool waits] w fun e w' => e = .returned (.bool false) ∧ w' = w := by
  go_enter Tryz.func82, Tryz.ntmps82
  go_wp2
  go_ret
  exact ⟨rfl, rfl⟩
theorem ja_answer_nil (w : World) : Calls Tryz.prog 107 #[.pointer none] w fun e w' => e = .returned (.bool false) ∧ w' = w := by
  go_enter Tryz.func107, Tryz.ntmps107
  go_wp2
  go_ret
  exact ⟨rfl, rfl⟩
theorem ja_out_nil (k : Int) (w : World) : Calls Tryz.prog 95 #[.pointer none, .int .i64 k] w fun e w' => e = .returned (.int .u8 0) ∧ w' = w := by
  go_enter Tryz.func95, Tryz.ntmps95
  go_wp2
  go_ret
  exact ⟨rfl, rfl⟩

theorem tick_ja (b c : Nat) (J : Ja) (w : World) (h : JamAt w b c J) : Calls Tryz.prog 58 #[.pointer (some ⟨c, 0, none⟩)] w fun e w' =>
    ∃ ao cap, e = .returned (.slice ao (outs 0 J.xs).length cap) ∧ Reads w' ao (nums (outs 0 J.xs)) ∧ (∀ x, ao = some x → w.heap.size ≤ x.block ∧ x.block < w'.heap.size) ∧ JamAt w' b c J.tick ∧ Fr b c w w' := by
  refine (tick_any c J.xs w h.clock).mono ?_
  rintro e w' ⟨v, rfl, hown, hc, hg⟩
  obtain ⟨ao, cap, rfl, -, hr, hf⟩ := owns_form hown
  refine ⟨ao, cap, rfl, hr, fun x hx => ?_, ⟨(hg.block b h.lt.1 (by simp only [ne_eq, Option.some.injEq]; exact h.ne)).trans h.cells, hc, h.ok⟩, Fr.of_gb hg (.inr (.inl rfl))⟩
  subst hx
  rcases hf with ⟨e, -⟩ | ⟨g, e⟩
  · cases e
  · obtain rfl := Option.some.inj e
    exact hown.lt g rfl
end Go.Proofs.YtldjglmelbkngaaGreat.Tape
