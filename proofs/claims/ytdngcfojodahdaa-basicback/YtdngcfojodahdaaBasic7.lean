/- The basic laws' own awake; a unit that is kept; a message that is put. -/
import Derived.Test.YtdngcfojodahdaaBasic4
import Derived.Test.YtdngcfojodahdaaBasic6
import Derived.Lib.SlBytesConst
namespace Go.Proofs.Ytdngcfojodahdaa.Tape
open Go.ChangeShapes Go.WideShapes Go.ChangeAt Go.RowKit
set_option linter.unusedVariables false

/-- A unit is kept in a new block. -/
theorem kept_unit (w : World) (b f : Int) (bib fib : Bool) (k : Int) (ao : Option Addr) (n c : Nat) : ∃ W, (stU (.pointer (some ⟨w.heap.size, 0, none⟩)) (.agg (uC b f bib fib k (.slice ao n c)))).run Try.prog (w.alloc (.cells #[.int .u8 0, .int .u8 0, .bool false, .bool false, .int .u8 0, .int .u8 0, .bool false, .slice none 0 0] 37)) = .ok () W ∧
    Below w.heap.size w W ∧ W.heap[w.heap.size]? = some (.cells (uC b f bib fib k (.slice ao n c)) 37 (0, 0)) := by
  have hh := heap_alloc_new w (.cells zeroU 37)
  have hB := (Below.refl w.heap.size w).alloc (Nat.le_refl _) (.cells zeroU 37)
  exact ⟨_, st_unit hh rfl rfl (uC_one _ _ _ _ _ _ _ _), gb_below (putU_gb _ _ _) hB (Nat.le_refl _) hB.size, putU_heap hh rfl⟩

theorem uC_cells {w : World} {r : Nat} {b f : Int} {bib fib : Bool} {k : Int} {x : Value} (h : w.heap[r]? = some (.cells (uC b f bib fib k x) 37 (0, 0))) :
    w.cell? ⟨r, 0, none⟩ = some (.int .u8 b) ∧ w.cell? ⟨r, 1, none⟩ = some (.int .u8 f) ∧ w.cell? ⟨r, 2, none⟩ = some (.bool bib) ∧ w.cell? ⟨r, 3, none⟩ = some (.bool fib) ∧ w.cell? ⟨r, 4, none⟩ = some (.int .u8 k) ∧ w.cell? ⟨r, 7, none⟩ = some x := by
  obtain ⟨⟨h0, h1, h2, h3, h4, h5, h6, h7⟩, -⟩ := unit_cells h
  exact ⟨h0, h1, h2, h3, h4, h7⟩

/-- A message is put. -/
theorem BasIn.put {w : World} {p hb B : Nat} {T0 : Nat → Prop} {t : Bs} {s : Hs} (h : BasIn w p hb B T0 t s) (ao : Option Addr) (n cap : Nat) (xs : List Int) (hn : xs.length = n) (hr : Reads w ao (xs.map (.int .u8))) (hx : ∀ x ∈ xs, 0 ≤ x ∧ x ≤ 255) (hB : B ≤ w.heap.size)
    (h3 : 3 ≤ n) (h273 : n ≤ 273) (hm : (s.sent.length + s.next.length : Int) < s.most) (ho : (sz s.sent + sz s.next + n : Int) ≤ s.oct) :
    Calls Try.prog 11 #[.pointer (some ⟨hb, 0, none⟩), .slice ao n cap] w fun e w' => e = .returned (.int .i64 0) ∧ ∃ T1, BasIn w' p hb B T1 t { s with next := s.next ++ [xs] } ∧ Foot (fun g => g = p ∨ T0 g) (fun g => g = p ∨ T1 g) w w' := by
  refine (put_ok hb B T0 s ao n cap xs w h.hold hn hr hx hB h3 h273 hm ho).mono ?_
  rintro e w' ⟨rfl, T1, hat, hF⟩
  obtain ⟨h1, h2⟩ := h.step hat hF
  exact ⟨rfl, T1, h1, h2⟩

theorem BasIn.fbelow {w w' : World} {p hb B : Nat} {T0 T1 : Nat → Prop} {t : Bs} {s : Hs} (h : BasIn w p hb B T0 t s) (hF : Foot (fun g => g = p ∨ T0 g) (fun g => g = p ∨ T1 g) w w') {C : Nat} (hC : C ≤ B) (hw : C ≤ w.heap.size) : Below C w w' := hF.below (fun g hg => Nat.le_trans hC (h.at_.lt g hg).1) hw

attribute [local go_sem ↓] ldU_def stU_def

set_option maxRecDepth 100000 in
set_option maxHeartbeats 1000000 in
theorem awake11_any (w : World) : Calls Try.prog 7 #[] w fun e w' => e = .returned (.bool true) ∧ Below w.heap.size w w' := by
  have hnew := bnew_any 5 1000 w.heap.size w (by omega) (by omega) (Nat.le_refl _)
  go_enter Try.func7, Try.ntmps7
  go_wp2_with fail
  refine hnew.mono ?_
  rintro e w1 ⟨p, hb, T, rfl, hin1, hT1, hB1⟩
  have hho := bhold_any _ _ _ _ _ _ _ hin1
  obtain ⟨W, hW⟩ : ∃ W, W = w1.alloc (.cells #[.int .u8 97, .int .u8 98, .int .u8 99] 5 (3, 4)) := ⟨_, rfl⟩
  have hB2 : Below w1.heap.size w1 W := by rw [hW]; exact (Below.refl _ _).alloc (Nat.le_refl _) _
  have hs1 := hB1.size
  have hs2 := hB2.size
  have hin2 := hin1.below hB2
  have hr2 : Reads W (some ⟨w1.heap.size, 0, none⟩) (([97, 98, 99] : List Int).map (.int .u8)) := by rw [hW]; exact reads_lit w1 [97, 98, 99] (3, 4)
  have hput := hin2.put (some ⟨w1.heap.size, 0, none⟩) 3 3 [97, 98, 99] rfl hr2 (by intro x hx; simp at hx; omega) (by omega) (by omega) (by omega) (by simp) (by simp [sz])
  simp only [List.nil_append] at hput
  have HIN2 : Hid (BasIn W p hb w.heap.size T bs0 ⟨5, 1000, 0, [], []⟩) := hin2
  have HB2 : Hid (Below w.heap.size w W) := hB1.trans (below_le hB2 hs1)
  have kc := Lib.run_convert_bytes_const (P := Try.prog) w1 28 5 (([97, 98, 99] : List Int).map (Value.int .u8)).toArray 3 3 Try.underlying28 Try.underlying5
  simp only [List.map_cons, List.map_nil, List.size_toArray, List.length_cons, List.length_nil] at kc
  clear hin1 hin2 hr2 hB1 hB2 hT1 hnew
  go_wp2_with (go_at_call 10; refine hho.mono ?_; rintro e w2 ⟨rfl, hw2⟩; obtain rfl := hw2.symm; clear hw2)
  rw [← hW]
  refine hput.mono ?_
  rintro e w3 ⟨rfl, T3, hin3, hF3⟩
  have HB3 : Hid (Below w.heap.size w w3) := HB2.out.trans (HIN2.out.fbelow hF3 (Nat.le_refl _) (by omega))
  have hnx := next_send p hb _ T3 bs0 _ [97, 98, 99] [] w3 hin3 (by simp [bs0]) rfl (by simp) HB3.out.size
  rw [show (((Hs.first ⟨5, 1000, 0, [], [[97, 98, 99]]⟩ : Nat) : Int) + ((Hs.sent ⟨5, 1000, 0, [], [[97, 98, 99]]⟩).length : Nat)) % 128 = 0 from rfl] at hnx
  have HIN3 : Hid (BasIn w3 p hb w.heap.size T3 bs0 ⟨5, 1000, 0, [], [[97, 98, 99]]⟩) := hin3
  clear hin3 hF3 hput hho hW kc
  go_wp2_with fail
  refine hnx.mono ?_
  rintro e w4 ⟨v, T4, rfl, hm4, hin4, hF4⟩
  obtain ⟨m4, c4, cur4, rfl, -⟩ := hm4.form
  obtain ⟨W4, hst4, hB4, hh4⟩ := kept_unit w4 127 0 true true 2 (some ⟨m4, 0, none⟩) 3 c4
  obtain ⟨y0, y1, y2, y3, y4, y7⟩ := uC_cells hh4
  have HB5 : Hid (Below w.heap.size w W4) := (HB3.out.trans (HIN3.out.fbelow hF4 (Nat.le_refl _) HB3.out.size)).trans (below_le hB4 (Nat.le_trans HB3.out.size hF4.size))
  clear hm4 hin4 hF4 hnx hB4 hh4
  simp only [bs0]
  go_wp2
  go_ret
  exact ⟨rfl, HB5.out⟩
end Go.Proofs.Ytdngcfojodahdaa.Tape
