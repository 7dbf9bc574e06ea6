/- The cyclic laws' own awake; a unit that is kept; a message that is put. -/
import Derived.Test.YtmnhciildlmjcaaCyc7
import Derived.Test.YtmnhciildlmjcaaSame6
import Derived.Lib.SlBytesConst
namespace Go.Proofs.Ytmnhciildlmjcaa.Tape
open Go.ChangeShapes Go.WideShapes Go.ChangeAt Go.RowKit
set_option linter.unusedVariables false

/-- A unit is kept in a new block. -/
theorem kept_unit (w : World) (b f : Int) (bib fib : Bool) (k : Int) (ao : Option Addr) (n c : Nat) : ∃ W, (stU (.pointer (some ⟨w.heap.size, 0, none⟩)) (.agg (uC b f bib fib k (.slice ao n c)))).run Try.prog (w.alloc (.cells #[.int .u8 0, .int .u8 0, .bool false, .bool false, .int .u8 0, .int .u8 0, .bool false, .slice none 0 0] 32)) = .ok () W ∧
    Below w.heap.size w W ∧ W.heap[w.heap.size]? = some (.cells (uC b f bib fib k (.slice ao n c)) 32 (0, 0)) := by
  have hh := heap_alloc_new w (.cells zeroU 32)
  have hB := (Below.refl w.heap.size w).alloc (Nat.le_refl _) (.cells zeroU 32)
  exact ⟨_, st_unit hh rfl rfl (uC_one _ _ _ _ _ _ _ _), gb_below (putU_gb _ _ _) hB (Nat.le_refl _) hB.size, putU_heap hh rfl⟩

theorem uC_cells {w : World} {r : Nat} {b f : Int} {bib fib : Bool} {k : Int} {x : Value} (h : w.heap[r]? = some (.cells (uC b f bib fib k x) 32 (0, 0))) :
    w.cell? ⟨r, 0, none⟩ = some (.int .u8 b) ∧ w.cell? ⟨r, 1, none⟩ = some (.int .u8 f) ∧ w.cell? ⟨r, 2, none⟩ = some (.bool bib) ∧ w.cell? ⟨r, 3, none⟩ = some (.bool fib) ∧ w.cell? ⟨r, 4, none⟩ = some (.int .u8 k) ∧ w.cell? ⟨r, 7, none⟩ = some x := by
  obtain ⟨⟨h0, h1, h2, h3, h4, h5, h6, h7⟩, -⟩ := unit_cells h
  exact ⟨h0, h1, h2, h3, h4, h7⟩

/-- A message is put. -/
theorem CycIn.put {w : World} {p hb B : Nat} {T0 : Nat → Prop} {t : Cs} {s : Hs} (h : CycIn w p hb B T0 t s) (ao : Option Addr) (n cap : Nat) (xs : List Int) (hn : xs.length = n) (hr : Reads w ao (xs.map (.int .u8))) (hx : ∀ x ∈ xs, 0 ≤ x ∧ x ≤ 255) (hB : B ≤ w.heap.size)
    (h3 : 3 ≤ n) (h273 : n ≤ 273) (hm : (s.sent.length + s.next.length : Int) < s.most) (ho : (sz s.sent + sz s.next + n : Int) ≤ s.oct) :
    Calls Try.prog 11 #[.pointer (some ⟨hb, 0, none⟩), .slice ao n cap] w fun e w' => e = .returned (.int .i64 0) ∧ ∃ T1, CycIn w' p hb B T1 t { s with next := s.next ++ [xs] } ∧ Foot (fun g => g = p ∨ T0 g) (fun g => g = p ∨ T1 g) w w' := by
  refine (put_ok hb B T0 s ao n cap xs w h.hold hn hr hx hB h3 h273 hm ho).mono ?_
  rintro e w' ⟨rfl, T1, hat, hF⟩
  obtain ⟨h1, h2⟩ := h.step hat hF
  exact ⟨rfl, T1, h1, h2⟩

theorem CycIn.fbelow {w w' : World} {p hb B : Nat} {T0 T1 : Nat → Prop} {t : Cs} {s : Hs} (h : CycIn w p hb B T0 t s) (hF : Foot (fun g => g = p ∨ T0 g) (fun g => g = p ∨ T1 g) w w') {C : Nat} (hC : C ≤ B) (hw : C ≤ w.heap.size) : Below C w w' := hF.below (fun g hg => Nat.le_trans hC (h.at_.lt g hg).1) hw

/-- A unit is kept in a new block. -/
theorem kept_any (w : World) (u : Array Value) (h8 : u.size = 8) (h1 : u.all (·.oneCell') = true) : ∃ W, (stU (.pointer (some ⟨w.heap.size, 0, none⟩)) (.agg u)).run Try.prog (w.alloc (.cells #[.int .u8 0, .int .u8 0, .bool false, .bool false, .int .u8 0, .int .u8 0, .bool false, .slice none 0 0] 32)) = .ok () W ∧
    Below w.heap.size w W ∧ W.heap[w.heap.size]? = some (.cells u 32 (0, 0)) := by
  have hh := heap_alloc_new w (.cells zeroU 32)
  have hB := (Below.refl w.heap.size w).alloc (Nat.le_refl _) (.cells zeroU 32)
  exact ⟨_, st_unit hh rfl h8 h1, gb_below (putU_gb _ _ _) hB (Nat.le_refl _) hB.size, putU_heap hh h8.symm⟩

attribute [local go_sem ↓] ldU_def stU_def

set_option maxRecDepth 100000 in
set_option maxHeartbeats 1000000 in
theorem awake12_any (w : World) : Calls Try.prog 6 #[] w fun e w' => e = .returned (.bool true) ∧ Below w.heap.size w w' := by
  have hnew := cnew_any 5 1000 3 100 w.heap.size w (by omega) (by omega) (by omega) (by omega) (Nat.le_refl _)
  go_enter Try.func6, Try.ntmps6
  go_wp2_with fail
  refine hnew.mono ?_
  rintro e w1 ⟨p, hb, T, rfl, hin1, hT1, hB1⟩
  have hho := chold_any _ _ _ _ _ _ _ hin1
  obtain ⟨W, hW⟩ : ∃ W, W = w1.alloc (.cells #[.int .u8 97, .int .u8 98, .int .u8 99] 5 (3, 4)) := ⟨_, rfl⟩
  have hB2 : Below w1.heap.size w1 W := by rw [hW]; exact (Below.refl _ _).alloc (Nat.le_refl _) _
  have hs1 := hB1.size
  have hs2 := hB2.size
  have hin2 := hin1.below hB2
  have hr2 : Reads W (some ⟨w1.heap.size, 0, none⟩) (([97, 98, 99] : List Int).map (.int .u8)) := by rw [hW]; exact reads_lit w1 [97, 98, 99] (3, 4)
  have hput := hin2.put (some ⟨w1.heap.size, 0, none⟩) 3 3 [97, 98, 99] rfl hr2 (by intro x hx; simp at hx; omega) (by omega) (by omega) (by omega) (by simp) (by simp [sz])
  simp only [List.nil_append] at hput
  have HIN2 : Hid (CycIn W p hb w.heap.size T (cs0 3 100) ⟨5, 1000, 0, [], []⟩) := hin2
  have HB2 : Hid (Below w.heap.size w W) := hB1.trans (below_le hB2 hs1)
  have kc := Lib.run_convert_bytes_const (P := Try.prog) w1 30 5 (([97, 98, 99] : List Int).map (Value.int .u8)).toArray 3 3 Try.underlying30 Try.underlying5
  simp only [List.map_cons, List.map_nil, List.size_toArray, List.length_cons, List.length_nil] at kc
  clear hin1 hin2 hr2 hB1 hB2 hT1 hnew
  go_wp2_with (go_at_call 10; refine hho.mono ?_; rintro e w2 ⟨rfl, hw2⟩; obtain rfl := hw2.symm; clear hw2)
  rw [← hW]
  refine hput.mono ?_
  rintro e w3 ⟨rfl, T3, hin3, hF3⟩
  have HB3 : Hid (Below w.heap.size w w3) := HB2.out.trans (HIN2.out.fbelow hF3 (Nat.le_refl _) (by omega))
  have hnx := next_send p hb _ T3 (cs0 3 100) _ [97, 98, 99] [] w3 hin3 rfl rfl rfl (by simp) HB3.out.size
  rw [show (((Hs.first ⟨5, 1000, 0, [], [[97, 98, 99]]⟩ : Nat) : Int) + ((Hs.sent ⟨5, 1000, 0, [], [[97, 98, 99]]⟩).length : Nat)) % 128 = 0 from rfl, show (cs0 3 100).last = 127 from rfl] at hnx
  have HIN3 : Hid (CycIn w3 p hb w.heap.size T3 (cs0 3 100) ⟨5, 1000, 0, [], [[97, 98, 99]]⟩) := hin3
  clear hin3 hF3 hput hho hW kc
  go_wp2_with fail
  refine hnx.mono ?_
  rintro e w4 ⟨v, T4, rfl, hm4, hin4, hF4⟩
  obtain ⟨m4, c4, cur4, rfl, -⟩ := hm4.form
  obtain ⟨W4, hst4, hB4, hh4⟩ := kept_unit w4 127 0 true true 2 (some ⟨m4, 0, none⟩) 3 c4
  have hin5 := hin4.below hB4
  have hnx5 : Calls Try.prog 14 #[.pointer (some ⟨p, 0, none⟩)] W4 fun e w' => ∃ v, e = .returned (.agg (uC 127 0 true true 2 v)) ∧ HMsg w' W4.heap.size v [97, 98, 99] ∧ Below w.heap.size W4 w' ∧ (∀ (g : Nat) cur, W4.heap[g]? = some (.cells cur 5 (0, 0)) ∨ W4.heap[g]? = some (.cells cur 32 (0, 0)) → w'.heap[g]? = W4.heap[g]?) := by
    refine (next_else p hb _ T4 _ _ W4 hin5 rfl rfl (.inl rfl) (Nat.le_trans HB3.out.size (Nat.le_trans hF4.size hB4.size))).mono ?_
    rintro e w' ⟨v, h1, h2, h3, h4⟩
    exact ⟨v, h1, h2, hin5.fbelow h4 (Nat.le_refl _) (Nat.le_trans HB3.out.size (Nat.le_trans hF4.size hB4.size)), fun g cur hg => by
      rcases hg with hg | hg
      · exact h4.block g (heap_lt hg) (hin5.at_.not5 g cur hg)
      · exact h4.block g (heap_lt hg) (hin5.at_.not37 g cur hg)⟩
  have HB5 : Hid (Below w.heap.size w W4) := (HB3.out.trans (HIN3.out.fbelow hF4 (Nat.le_refl _) HB3.out.size)).trans (below_le hB4 (Nat.le_trans HB3.out.size hF4.size))
  have hr4 : Reads W4 (some ⟨m4, 0, none⟩) (([97, 98, 99] : List Int).map (.int .u8)) := (Reads.of_owns hm4.1).below (Nat.le_refl _) hB4
  have HH4 : Hid (W4.heap[w4.heap.size]? = some (.cells (uC 127 0 true true 2 (.slice (some ⟨m4, 0, none⟩) 3 c4)) 32 (0, 0))) := hh4
  have HM4 : Hid (∃ cur, W4.heap[m4]? = some (.cells cur 5 (0, 0))) := by
    obtain ⟨m', c', cur', e, hh, -⟩ := hm4.form
    cases e
    exact ⟨cur', (hB4.block _ (heap_lt hh)).trans hh⟩
  have hs4 := hB4.size
  clear hm4 hin4 hF4 hnx hB4 hh4 hin5
  go_wp2_with fail
  refine hnx5.mono ?_
  rintro e w5 ⟨v5, rfl, hm5, hB5, hk5⟩
  obtain ⟨m5, c5, cur5, rfl, hc5, -, -, hr5⟩ := hm5.form
  obtain ⟨W5, hst5, hB6, hh5⟩ := kept_unit w5 127 0 true true 2 (some ⟨m5, 0, none⟩) 3 c5
  have hu5 := (hk5 _ _ (.inr HH4.out)).trans HH4.out
  have hu6 := (hB6.block _ (heap_lt hu5)).trans hu5
  have hr45 : Reads w5 (some ⟨m4, 0, none⟩) (([97, 98, 99] : List Int).map (.int .u8)) := fun i u hi => by
    obtain ⟨g, off, e, hc⟩ := hr4 i u hi
    cases e
    obtain ⟨cur, hcur⟩ := HM4.out
    exact ⟨_, _, rfl, (World.cell?_of_block (a := ⟨m4, 0 + i, none⟩) (hk5 m4 cur (.inl hcur))).trans hc⟩
  have hr46 := hr45.below (Nat.le_refl _) hB6
  have hr56 := hr5.below (Nat.le_refl _) hB6
  have hsm := fun W (hW : Below W5.heap.size W5 W) => rsame6_any 127 0 true true 2 0 false (some ⟨m4, 0, none⟩) 3 c4 [97, 98, 99] 127 0 true true 2 0 false (some ⟨m5, 0, none⟩) 3 c5 [97, 98, 99] true W (by decide) rfl rfl (by intro x hx; simp at hx; omega) (by intro x hx; simp at hx; omega) (hr46.below (Nat.le_refl _) hW) (hr56.below (Nat.le_refl _) hW)
  have HB7 : Hid (Below w.heap.size w W5) := (HB5.out.trans hB5).trans (below_le hB6 (Nat.le_trans HB5.out.size hB5.size))
  obtain ⟨y0, y1, y2, y3, y4, y7⟩ := uC_cells hu6
  have hl1 := (ld_unit hu6 rfl).1
  have hl2 := (ld_unit hh5 rfl).1
  clear hnx5 hB5 hk5 hm5 hB6 hr4 hr45 hu5 hc5 hr5 hst4
  go_wp2_with fail
  refine (hsm W5 (Below.refl _ _)).mono ?_
  rintro e w6 ⟨rfl, hB8⟩
  go_wp2
  go_ret
  exact ⟨rfl, HB7.out.trans (below_le hB8 HB7.out.size)⟩
end Go.Proofs.Ytmnhciildlmjcaa.Tape
