/- The reference's Side of a cyclic way: how it is made; its Next. -/
import Derived.Test.YtmnhciildlmjcaaRefC6
namespace Go.Proofs.Ytmnhciildlmjcaa.Tape
open Go.ChangeShapes Go.WideShapes Go.ChangeAt Go.RowKit
set_option linter.unusedVariables false

attribute [local go_sem ↓] ldS_def stS_def ldU_def stU_def

/-- A Side's cells, four of them written. -/
theorem side_four {w : World} {b : Nat} {L : Value} {a f m o : Int} {t : Tail} (h : w.heap[b]? = some (.cells (sideC L a f m o t) 28 (0, 0))) (c : Bool) (x y z : Int) :
    ((((w.setCell ⟨b, 5, none⟩ (.bool c)).setCell ⟨b, 6, none⟩ (.int .i64 x)).setCell ⟨b, 7, none⟩ (.int .i64 y)).setCell ⟨b, 12, none⟩ (.int .i64 z)).heap[b]? = some (.cells (sideC L a f m o { t with cyc := c, n1 := x, n2 := y, place := z }) 28 (0, 0)) :=
  row_set (cs := [L, .int .i64 a, .int .i64 f, .int .i64 m, .int .i64 o, .bool c, .int .i64 x, .int .i64 y, .bool t.fib, .bool t.bib, .int .i64 t.last, .bool t.ask, .int .i64 t.place, .bool t.force, .bool t.b1, .bool t.b2, .bool t.i1, .bool t.i2])
    (row_set (cs := [L, .int .i64 a, .int .i64 f, .int .i64 m, .int .i64 o, .bool c, .int .i64 x, .int .i64 t.n2, .bool t.fib, .bool t.bib, .int .i64 t.last, .bool t.ask, .int .i64 t.place, .bool t.force, .bool t.b1, .bool t.b2, .bool t.i1, .bool t.i2])
    (row_set (cs := [L, .int .i64 a, .int .i64 f, .int .i64 m, .int .i64 o, .bool c, .int .i64 t.n1, .int .i64 t.n2, .bool t.fib, .bool t.bib, .int .i64 t.last, .bool t.ask, .int .i64 t.place, .bool t.force, .bool t.b1, .bool t.b2, .bool t.i1, .bool t.i2])
    (row_set (cs := [L, .int .i64 a, .int .i64 f, .int .i64 m, .int .i64 o, .bool t.cyc, .int .i64 t.n1, .int .i64 t.n2, .bool t.fib, .bool t.bib, .int .i64 t.last, .bool t.ask, .int .i64 t.place, .bool t.force, .bool t.b1, .bool t.b2, .bool t.i1, .bool t.i2]) h 5 (.bool c)) 6 (.int .i64 x)) 7 (.int .i64 y)) 12 (.int .i64 z)

set_option maxRecDepth 100000 in
set_option maxHeartbeats 1000000 in
theorem rside_any (m a o : Int) (w : World) : Calls Try.prog 8 #[.int .i64 m, .int .i64 a, .int .i64 o] w fun e w' => e = .returned (.agg (sideC (.slice none 0 0) 0 0 m 5000 (tlC (cs0 a o)))) ∧ Below w.heap.size w w' := by
  obtain ⟨W, hW⟩ : ∃ W, W = w.alloc (.cells zeroS 28) := ⟨_, rfl⟩
  have hB : Below w.heap.size w W := by rw [hW]; exact (Below.refl _ _).alloc (Nat.le_refl _) _
  have hh : W.heap[w.heap.size]? = some (.cells zeroS 28 (0, 0)) := by rw [hW]; exact heap_alloc_new w _
  have hnew := rnew_any m 5000 W
  unfold zeroS at hW
  go_enter Try.func8, Try.ntmps8
  go_upto_region 1 with fail
  rw [← hW]
  clear hW
  go_wp2_with fail
  refine hnew.mono ?_
  rintro e W1 ⟨rfl, hB1⟩
  obtain ⟨W2, hst2, hh2, hB2⟩ := keep_side W1 (sideC (.slice none 0 0) 0 0 m 5000 ⟨false, 0, 0, true, true, 127, false, -1, false, false, false, false, false⟩) rfl (sideC_one _ _ _ _ _ _ _ _)
  have hr2 := (hB2.block _ (Nat.lt_of_lt_of_le (heap_lt hh) hB1.size)).trans ((hB1.block _ (heap_lt hh)).trans hh)
  obtain ⟨b, hb⟩ : ∃ b, b = W1.heap.size := ⟨_, rfl⟩
  have hbw : w.heap.size < b := by have := heap_lt hh; have := hB1.size; omega
  rw [← hb] at hh2
  obtain ⟨⟨c5, c6, c7, -⟩, c12, -⟩ := side_all hh2
  obtain ⟨-, hz⟩ := side_cells hh2
  have z5 := hz 5
  have z6 := hz 6
  have z7 := hz 7
  have z12 := hz 12
  have h4 := side_four hh2 true a o 0
  have hg4 : W2.grownBy ((((W2.setCell ⟨b, 5, none⟩ (.bool true)).setCell ⟨b, 6, none⟩ (.int .i64 a)).setCell ⟨b, 7, none⟩ (.int .i64 o)).setCell ⟨b, 12, none⟩ (.int .i64 0)) (some b) := (((gb_set _).trans (gb_set _)).trans (gb_set _)).trans (gb_set _)
  have hr4 := (hg4.block _ (heap_lt hr2) (by simp; omega)).trans hr2
  have hB02 := (hB.trans (below_le hB1 hB.size)).trans (below_le hB2 (Nat.le_trans hB.size hB1.size))
  have hB4 := gb_below hg4 hB02 (Nat.le_of_lt hbw) hB02.size
  have h4' : ((((W2.setCell ⟨b, 5, none⟩ (.bool true)).setCell ⟨b, 6, none⟩ (.int .i64 a)).setCell ⟨b, 7, none⟩ (.int .i64 o)).setCell ⟨b, 12, none⟩ (.int .i64 0)).heap[b]? = some (.cells (sideC (.slice none 0 0) 0 0 m 5000 (tlC (cs0 a o))) 28 (0, 0)) := h4
  have hld4 := (ld_side h4' rfl).1
  obtain ⟨W5, hst5, hres, hB5⟩ := back hr4 rfl (sideC_size (.slice none 0 0) 0 0 m 5000 (tlC (cs0 a o))) (sideC_one _ _ _ _ _ _ _ _) hB4 (Nat.le_refl _)
  have HRES : Hid (_) := hres
  have HB5 : Hid (Below w.heap.size w W5) := hB5
  obtain ⟨W4, hW4⟩ : ∃ W4, W4 = (((W2.setCell ⟨b, 5, none⟩ (.bool true)).setCell ⟨b, 6, none⟩ (.int .i64 a)).setCell ⟨b, 7, none⟩ (.int .i64 o)).setCell ⟨b, 12, none⟩ (.int .i64 0) := ⟨_, rfl⟩
  rw [← hW4] at hld4 hst5
  clear hB hh hB1 hh2 hB2 hr2 h4 h4' hg4 hr4 hB02 hB4 hres hB5 hz hnew
  go_upto_region 2 with fail
  rw [← hb]
  clear hb hst2
  go_upto_region 6 with fail
  rw [← hW4]
  clear hW4 c5 c6 c7 c12 z5 z6 z7 z12
  go_wp2
  refine bodyPost_ret (v := .agg (sideC (.slice none 0 0) 0 0 m 5000 (tlC (cs0 a o)))) (by simp [results, Try.results8, asAddr, HRES.out]) rfl ?_
  exact ⟨rfl, HB5.out⟩

/-- Both go back, whatever they are. -/
theorem AG.back5 {w Y : World} {L : Value} {a2 f2 m2 o2 : Int} {t2 : Cs} (h : AG w Y L a2 f2 m2 o2 t2) {ds us : Array Value} (hd : ds.size = 18) (hd1 : ds.all (·.oneCell') = true) (h8 : us.size = 8) (h1 : us.all (·.oneCell') = true) :
    ∃ Y1 Y2, (stS (.pointer (some ⟨w.heap.size + 1, 0, none⟩)) (.agg ds)).run Try.prog Y = .ok () Y1 ∧ (stU (.pointer (some ⟨w.heap.size + 1 + 1, 0, none⟩)) (.agg us)).run Try.prog Y1 = .ok () Y2 ∧ Hid (Back w Y2 ds us ∧ Below w.heap.size w Y2 ∧ ∀ (g : Nat) cur, Y.heap[g]? = some (.cells cur 5 (0, 0)) → Y2.heap[g]? = Y.heap[g]?) := by
  have g1 := putS_gb Y (w.heap.size + 1) ds
  have hb1 := putS_heap (ds := ds) h.s1 hd.symm
  have hu1 := (g1.block _ (heap_lt h.s2) (by simp)).trans h.s2
  have hB1 := gb_below g1 h.low (Nat.le_succ _) h.low.size
  obtain ⟨Y2, e1, e2, e3, e4⟩ := unit_back hu1 rfl h8 h1 hB1 (show w.heap.size ≤ w.heap.size + 1 + 1 by omega) hB1.size
  have hb2 := (e4.block _ (heap_lt hb1) (by simp)).trans hb1
  exact ⟨_, Y2, st_side h.s1 rfl hd hd1, e1, ⟨(ld_side hb2 hd).2, e2.out⟩, e3, fun g cur hg => by
    have q1 := five_keep h.s1 (by decide) g1 g cur hg
    exact (five_keep hu1 (by decide) e4 g cur (q1.trans hg)).trans q1⟩

set_option maxRecDepth 100000 in
set_option maxHeartbeats 1000000 in
theorem rnext_of {w : World} {B : Nat} {lo : Option Addr} {n cap : Nat} (t t' : Cs) (a a' f m o b k x : Int) (i : Option (List Int))
   (hag : ∀ Y, Below w.heap.size w Y → Calls Try.prog 33 #[.agg (sideC (.slice lo n cap) a f m o (tlC t))] Y fun e w' => ∃ v, e = .returned (.tuple #[.agg (sideC (.slice lo n cap) a' f m o (tlC t')), .agg (uC b x true true k v)]) ∧ InfoAt w' B v i ∧ Below Y.heap.size Y w') :
    Calls Try.prog 12 #[.agg (sideC (.slice lo n cap) a f m o (tlC t))] w fun e w' => ∃ v, e = .returned (.tuple #[.agg (sideC (.slice lo n cap) a' f m o (tlC t')), .agg (uC b x true true k v)]) ∧ InfoAt w' B v i ∧ Below w.heap.size w w' := by
  obtain ⟨W, hW, hA⟩ := AG.begin w (.slice lo n cap) a f m o t
  have c5 : W.cell? ⟨w.heap.size, 5, none⟩ = some (.bool true) := (side_all hA.s0).1.1
  have hld := hA.cells.2.2.2.1
  have hag1 := hag W hA.low
  have HA : Hid _ := hA
  clear hA hag
  go_enter Try.func12, Try.ntmps12
  go_upto_region 1 with fail
  rw [← hW]
  clear hW
  go_wp2_with fail
  refine hag1.mono ?_
  rintro e W1 ⟨v, rfl, hi, hB1⟩
  obtain ⟨vo, vn, vc, rfl⟩ := hi.form
  have hA1 := HA.out.below hB1
  obtain ⟨Y1, Y2, hst1, hst2, HY⟩ := hA1.back5 (ds := sideC (.slice lo n cap) a' f m o (tlC t')) (us := uC b x true true k (.slice vo vn vc)) rfl (sideC_one _ _ _ _ _ _ _ _) rfl (uC_one _ _ _ _ _ _ _ _)
  have HI : Hid (InfoAt W1 B (.slice vo vn vc) i) := hi
  clear hA1 hi hB1 hag1 hld c5
  go_wp2
  refine bodyPost_ret (v := .tuple #[.agg (sideC (.slice lo n cap) a' f m o (tlC t')), .agg (uC b x true true k (.slice vo vn vc))]) (by simp [results, Try.results12, asAddr, HY.out.1.1, HY.out.1.2]) rfl ?_
  exact ⟨_, rfl, HI.out.keep HY.out.2.2, HY.out.2.1⟩

/-- What goes next of a reference's Side. -/
theorem rnx_any {w : World} {B : Nat} {lo : Option Addr} {n cap : Nat} (s : Hs) (t : Cs) (m o : Int) (hr : PRow w B lo n cap (s.sent ++ s.next)) (hsm : n ≤ 1000) (h127 : s.sent.length < 127) (hl0 : 0 ≤ t.last) (hl1 : t.last < 256) (hf : s.first < 128) (hpl : t.pl ≤ 1000) :
    Calls Try.prog 12 #[.agg (sideC (.slice lo n cap) s.sent.length s.first m o (tlC t))] w fun e w' => ∃ v, e = .returned (.tuple #[.agg (sideC (.slice lo n cap) (t.nx s).1.2.sent.length s.first m o (tlC (t.nx s).1.1)), .agg (uC t.last (t.nx s).2.1 true true (kd (t.nx s).2.2) v)]) ∧ InfoAt w' B v (t.nx s).2.2 ∧ Below w.heap.size w w' := by
  refine rnext_of t (t.nx s).1.1 s.sent.length (t.nx s).1.2.sent.length s.first m o t.last (kd (t.nx s).2.2) (t.nx s).2.1 (t.nx s).2.2 (fun Y hY => ?_)
  have hrY := hr.below hY
  have key : ∀ t1 : Cs, t1 = { t with force := t.force || t.much s } → (s.next ≠ [] → (t.force || t.much s) = true) → Calls Try.prog 33 #[.agg (sideC (.slice lo n cap) s.sent.length s.first m o (tlC t))] Y fun e w' => ∃ v, e = .returned (.tuple #[.agg (sideC (.slice lo n cap) s.sent.length s.first m o (tlC (t1.again s).1)), .agg (uC t.last (t1.again s).2.1 true true (kd (t1.again s).2.2) v)]) ∧ InfoAt w' B v (t1.again s).2.2 ∧ Below Y.heap.size Y w' := fun t1 ht1 hF => by
    by_cases hpos : 0 < s.sent.length
    · by_cases hn : s.next = []
      · exact ragain_b0 s t t1 m o hrY hsm h127 hl0 hl1 hf hpl hpos ht1 hn
      · exact ragain_b1 s t t1 m o hrY hsm h127 hl0 hl1 hf hpl hpos ht1 hn (hF hn)
    · have hs0 : s.sent = [] := List.eq_nil_of_length_eq_zero (by omega)
      have hmu : t1.much s = false := by unfold Cs.much Cs.fits; rw [hs0]; simp
      have hmt : t.much s = false := by unfold Cs.much Cs.fits; rw [hs0]; simp
      have e1 : t1.again s = ({ t with force := false, pl := 0 }, s.last, none) := by
        unfold Cs.again
        rw [hmu, hs0, ht1]
        simp
      rw [e1]
      rw [show ((s.sent.length : Nat) : Int) = 0 by rw [hs0]; rfl]
      by_cases hn : s.next = []
      · exact (ragain_f0 s t m o hrY hsm hs0 hl0 hl1 hf hn).mono fun e w' ⟨h1, h2⟩ => ⟨_, h1, rfl, h2⟩
      · have htf := hF hn
        rw [hmt, Bool.or_false] at htf
        exact (ragain_f1 s t m o hrY hsm hs0 hl0 hl1 hf hn htf).mono fun e w' ⟨h1, h2⟩ => ⟨_, h1, rfl, h2⟩
  unfold Cs.nx
  by_cases h1 : t.force = true ∨ t.much s = true
  · rw [if_pos h1]
    have hF : (t.force || t.much s) = true := by rcases h1 with h | h <;> simp [h]
    exact key { t with force := true } (by rw [hF]) (fun _ => hF)
  · rw [if_neg h1, if_neg (by omega)]
    have hf' : t.force = false := Bool.eq_false_iff.2 fun e => h1 (.inl e)
    have hm' : t.much s = false := Bool.eq_false_iff.2 fun e => h1 (.inr e)
    cases hn : s.next with
    | nil => exact key t (by rw [hm', Bool.or_false]) (fun h => absurd hn h)
    | cons x xs =>
      refine (ragain_send s t m o x xs hrY hsm h127 hl0 hl1 hf hn hf' hm').mono fun e w' ⟨v, g1, g2, g3⟩ => ⟨v, ?_, g2, g3⟩
      rw [g1]
      simp only [List.length_append, List.length_singleton, kd]
      rfl
end Go.Proofs.Ytmnhciildlmjcaa.Tape
