/- The reference's Answer and Take of a cyclic way, where something goes or is taken; its Put. -/
import Derived.Test.YtmnhciildlmjcaaRefC8
namespace Go.Proofs.Ytmnhciildlmjcaa.Tape
open Go.ChangeShapes Go.WideShapes Go.ChangeAt Go.RowKit
set_option linter.unusedVariables false

attribute [local go_sem ↓] ldS_def stS_def ldU_def stU_def

theorem PRow.off {w w' : World} {B r : Nat} {lo : Option Addr} {n cap : Nat} {ms : List (List Int)} {cs : Array Value} {ty : TypeId} (h : PRow w B lo n cap ms) (hg : w.grownBy w' (some r)) (hr : w.heap[r]? = some (.cells cs ty (0, 0))) (h5 : ty ≠ 5) (h30 : ty ≠ 30) : PRow w' B lo n cap ms := by
  obtain ⟨us, h1, h2⟩ := h
  refine ⟨us, h1.at_ fun g hgg => ?_, h2.mono fun u x hm => hm.off hg hr h5⟩
  obtain ⟨cur, hc⟩ := h1.type g hgg
  refine hg.block g (heap_lt hc) fun e => ?_
  simp only [Option.some.injEq] at e
  subst e
  rw [hr] at hc
  simp only [Option.some.injEq, Obj.cells.injEq] at hc
  exact h30 hc.2.1
/-- The Side goes back; the messages stay. -/
theorem AH.back5 {w Y : World} {L : Value} {a f m o : Int} {t : Cs} {cu : Array Value} (h : AH w Y L a f m o t cu) {ds : Array Value} (hd : ds.size = 18) (hd1 : ds.all (·.oneCell') = true) :
    ∃ Y2, (stS (.pointer (some ⟨w.heap.size + 1 + 1, 0, none⟩)) (.agg ds)).run Try.prog Y = .ok () Y2 ∧ Hid ((loadVar 28 ⟨w.heap.size + 1 + 1, 0, none⟩).run Try.prog Y2 = .ok (.agg ds) Y2 ∧ Below w.heap.size w Y2 ∧ Y.grownBy Y2 (some (w.heap.size + 1 + 1)) ∧ Y.heap[w.heap.size + 1 + 1]? = some (.cells zeroS 28 (0, 0))) :=
  ⟨_, st_side h.s2 rfl hd hd1, (ld_side (putS_heap h.s2 hd.symm) hd).2, gb_below (putS_gb _ _ _) h.low (show w.heap.size ≤ w.heap.size + 1 + 1 by omega) h.low.size, putS_gb _ _ _, h.s2⟩
theorem PRow.grow {w w' : World} {B r : Nat} {lo : Option Addr} {n cap : Nat} {ms : List (List Int)} (h : PRow w B lo n cap ms) (hg : w.grownBy w' (some r)) (hr : w.heap[r]? = some (.cells zeroS 28 (0, 0))) : PRow w' B lo n cap ms := h.off hg hr (by decide) (by decide)

theorem side_setp2 {w : World} {B : Nat} {L : Value} {a f m o : Int} {t : Cs} (h : w.heap[B]? = some (.cells (sideC L a f m o (tlC t)) 28 (0, 0))) (x : Int) : ((w.setCell ⟨B, 12, none⟩ (.int .i64 x)).setCell ⟨B, 12, none⟩ (.int .i64 0)).heap[B]? = some (.cells (sideC L a f m o (tlC { t with pl := 0 })) 28 (0, 0)) :=
  row_set (cs := [L, .int .i64 a, .int .i64 f, .int .i64 m, .int .i64 o, .bool true, .int .i64 t.n1, .int .i64 t.n2, .bool true, .bool true, .int .i64 t.last, .bool false, .int .i64 x, .bool t.force, .bool t.b1, .bool t.b0, .bool false, .bool false])
    (row_set (cs := [L, .int .i64 a, .int .i64 f, .int .i64 m, .int .i64 o, .bool true, .int .i64 t.n1, .int .i64 t.n2, .bool true, .bool true, .int .i64 t.last, .bool false, .int .i64 t.pl, .bool t.force, .bool t.b1, .bool t.b0, .bool false, .bool false]) h 12 (.int .i64 x)) 12 (.int .i64 0)

theorem rfree_p {w : World} {B : Nat} {s : Hs} {lo : Option Addr} {n cap : Nat} (m o x : Int) (t : Tail) (hr : PRow w B lo n cap (s.sent ++ s.next)) (hsm : n ≤ 1000) (hf : s.first < 128) (h0 : 0 ≤ x) (h1 : x ≤ 255) (k : Nat) (hb : bhd s.sent.length s.first x = k) (hk : k ≤ s.sent.length) :
    Calls Try.prog 41 #[.agg (sideC (.slice lo n cap) s.sent.length s.first m o t), .int .i64 x] w fun e w' => ∃ lo' n' cap', e = .returned (.tuple #[.agg (sideC (.slice lo' n' cap') ((s.sent.length : Int) - k) (((s.first : Int) + k) % 128) m o t), .int .i64 k]) ∧ PRow w' B lo' n' cap' (s.sent.drop k ++ s.next) ∧ (∀ ad, lo' = some ad → ∃ ad', lo = some ad' ∧ ad'.block = ad.block) ∧ Below w.heap.size w w' := by
  have hnn := hr.len
  rw [List.length_append] at hnn
  obtain ⟨us, g1, g2⟩ := hr
  have hp := g1.part k n cap (by omega) (Nat.le_refl _) hnn.2 (Nat.le_refl _)
  rw [List.take_of_length_le (by rw [← g1.cell.1]; exact Nat.le_refl _)] at hp
  have hd : (s.sent ++ s.next).drop k = s.sent.drop k ++ s.next := List.drop_append_of_le_length hk
  have fin : ∀ w' lo', Below w.heap.size w w' → lo' = (if cap = k then lo else lo.map (·.add k)) → PRow w' B lo' (n - k) (cap - k) (s.sent.drop k ++ s.next) := fun w' lo' hw e => by
    rw [e]
    refine ⟨us.drop k, hp.at_ fun g hg => hw.block g (hp.lt g hg), ?_⟩
    rw [← hd]
    exact (g2.drop k).mono fun u y hm => hm.below hw
  rcases g1 with ⟨e, -⟩ | ⟨g, off, cap0, cur, e, -⟩
  · simp only [Value.slice.injEq] at e
    obtain ⟨rfl, rfl, rfl⟩ := e
    obtain rfl : k = 0 := by omega
    refine (rfree_nil s.sent.length s.first m o x t w (by omega) (by omega) (by omega) (by omega) hb (by omega)).mono fun e w' ⟨q1, q2⟩ => ⟨none, 0, 0, ?_, ?_, fun ad e => absurd e (by simp), q2⟩
    · rw [q1]
      simp
    · exact fin w' none q2 (by simp)
  · simp only [Value.slice.injEq] at e
    obtain ⟨rfl, -, -⟩ := e
    by_cases hc : cap = k
    · subst hc
      obtain rfl : n = cap := by omega
      refine (rfree_end g off n s.sent.length s.first m o x t w (by omega) (by omega) (by omega) (by omega) hb (by omega) (by omega)).mono fun e w' ⟨q1, q2⟩ => ⟨some ⟨g, off, none⟩, 0, 0, q1, ?_, fun ad e => ⟨_, rfl, by cases e; rfl⟩, q2⟩
      have := fin w' (some ⟨g, off, none⟩) q2 (by rw [if_pos rfl])
      simpa using this
    · refine (rfree_in g off n cap k s.sent.length s.first m o x t w (by omega) (by omega) (by omega) (by omega) hb (by omega) (by omega) (by omega) hnn.2 hc).mono fun e w' ⟨q1, q2⟩ => ⟨some ⟨g, off + k, none⟩, n - k, cap - k, q1, ?_, fun ad e => ⟨_, rfl, by cases e; rfl⟩, q2⟩
      exact fin w' (some ⟨g, off + k, none⟩) q2 (by rw [if_neg hc]; simp [Addr.add_lit])

set_option maxRecDepth 100000 in
set_option maxHeartbeats 1000000 in
theorem ranswer_ok {w : World} {B : Nat} {lo : Option Addr} {n cap : Nat} (s : Hs) (t : Cs) (m o : Int) (b x k st : Int) (ub uf wd : Bool) (v : Value) (q : Nat) (hr : PRow w B lo n cap (s.sent ++ s.next)) (hsm : n ≤ 1000) (hf : s.first < 128) (hpl : t.pl ≤ 1000) (hb0 : 0 ≤ b) (hb1 : b ≤ 255) (hbh : bhd s.sent.length s.first b = q) (hq : q ≤ s.sent.length) :
    Calls Try.prog 15 #[.agg (sideC (.slice lo n cap) s.sent.length s.first m o (tlC t)), .agg #[.int .u8 b, .int .u8 x, .bool ub, .bool uf, .int .u8 k, .int .u8 st, .bool wd, v]] w fun e w' => ∃ lo' n' cap', e = .returned (.tuple #[.agg (sideC (.slice lo' n' cap') ((s.sent.length : Int) - q) (((s.first : Int) + q) % 128) m o (tlC { t with b0 := false, b1 := t.b0, pl := t.pl - q })), .int .i64 q, .int .i64 0]) ∧ PRow w' B lo' n' cap' (s.sent.drop q ++ s.next) ∧ (∀ ad, lo' = some ad → ∃ ad', lo = some ad' ∧ ad'.block = ad.block) ∧ Below w.heap.size w w' := by
  obtain ⟨W, hW, hA⟩ := AH.begin w (.slice lo n cap) s.sent.length s.first m o t #[.int .u8 b, .int .u8 x, .bool ub, .bool uf, .int .u8 k, .int .u8 st, .bool wd, v]
  have hld := hA.cells.2.2.1
  obtain ⟨⟨u0, -⟩, -⟩ := unit_cells hA.u1
  have hbe := rbehind_any (.slice lo n cap) s.sent.length s.first m o (tlC t) b W (by omega) (by omega) (by omega) (by omega)
  rw [hbh] at hbe
  have HA : Hid (AH w W (.slice lo n cap) s.sent.length s.first m o t #[.int .u8 b, .int .u8 x, .bool ub, .bool uf, .int .u8 k, .int .u8 st, .bool wd, v]) := hA
  have hfr : ∀ (Y : World) (t2 : Tail), Below w.heap.size w Y → Calls Try.prog 41 #[.agg (sideC (.slice lo n cap) s.sent.length s.first m o t2), .int .i64 b] Y fun e w' => ∃ lo' n' cap', e = .returned (.tuple #[.agg (sideC (.slice lo' n' cap') ((s.sent.length : Int) - q) (((s.first : Int) + q) % 128) m o t2), .int .i64 q]) ∧ PRow w' B lo' n' cap' (s.sent.drop q ++ s.next) ∧ (∀ ad, lo' = some ad → ∃ ad', lo = some ad' ∧ ad'.block = ad.block) ∧ Below Y.heap.size Y w' := fun Y t2 hY => rfree_p m o b t2 (hr.below hY) hsm hf hb0 hb1 q hbh hq
  have HFR : Hid (∀ (Y : World) (t2 : Tail), Below w.heap.size w Y → Calls Try.prog 41 #[.agg (sideC (.slice lo n cap) s.sent.length s.first m o t2), .int .i64 b] Y fun e w' => ∃ lo' n' cap', e = .returned (.tuple #[.agg (sideC (.slice lo' n' cap') ((s.sent.length : Int) - q) (((s.first : Int) + q) % 128) m o t2), .int .i64 q]) ∧ PRow w' B lo' n' cap' (s.sent.drop q ++ s.next) ∧ (∀ ad, lo' = some ad → ∃ ad', lo = some ad' ∧ ad'.block = ad.block) ∧ Below Y.heap.size Y w') := hfr
  have hq0 : ¬ (q : Int) < 0 := by omega
  have hq0' : decide ((q : Int) < 0) = false := decide_eq_false hq0
  have hqs : q ≤ 1000 := by have := hr.len; rw [List.length_append] at this; omega
  obtain ⟨A5, hA5⟩ : ∃ A5, A5 = (s.sent.length : Int) - q := ⟨_, rfl⟩
  obtain ⟨F5, hF5⟩ : ∃ F5, F5 = ((s.first : Int) + q) % 128 := ⟨_, rfl⟩
  rw [← hA5, ← hF5] at HFR ⊢
  clear hA hbh hfr hr hA5 hF5 hq0
  generalize s.sent.length = p at *
  go_enter Try.func15, Try.ntmps15
  go_upto_region 1 with fail
  rw [← hW]
  clear hW
  go_upto_region 2 with (go_at_call 40; refine hbe.mono ?_; rintro e W1 ⟨rfl, hB1⟩)
  have hA1 := HA.out.below hB1
  obtain ⟨-, ⟨-, c14, c15⟩, -, hz⟩ := hA1.cells
  have z14 := hz 14
  have z15 := hz 15
  have hA2 := hA1.set (t' := { t with b0 := false, b1 := t.b0 }) ((gb_set (k := 14) (.bool t.b0)).trans (gb_set (k := 15) (.bool false))) (side_setb hA1.s0 false)
  obtain ⟨W2, hW2⟩ : ∃ W2, W2 = (W1.setCell ⟨w.heap.size, 14, none⟩ (.bool t.b0)).setCell ⟨w.heap.size, 15, none⟩ (.bool false) := ⟨_, rfl⟩
  rw [← hW2] at hA2
  have hld2 := hA2.cells.2.2.1
  obtain ⟨⟨u0', -⟩, -⟩ := unit_cells hA2.u1
  have hfr2 := HFR.out W2 (tlC { t with b0 := false, b1 := t.b0 }) hA2.low
  have HA2 : Hid (AH w W2 (.slice lo n cap) p s.first m o { t with b0 := false, b1 := t.b0 } #[.int .u8 b, .int .u8 x, .bool ub, .bool uf, .int .u8 k, .int .u8 st, .bool wd, v]) := hA2
  clear hA1 hA2 hB1 hbe hld u0 hz
  go_upto_region 5 with fail
  rw [← hW2]
  clear hW2 c14 c15 z14 z15
  go_upto_region 9 with fail
  go_wp2_with fail
  refine hfr2.mono ?_
  rintro e W3 ⟨lo', n', cap', rfl, hpr, hlo, hB3⟩
  obtain ⟨W4, hst4, hh4, hB4⟩ := keep_side W3 (sideC (.slice lo' n' cap') A5 F5 m o (tlC { t with b0 := false, b1 := t.b0 })) rfl (sideC_one _ _ _ _ _ _ _ _)
  have hA4 := HA2.out.below (hB3.trans (below_le hB4 hB3.size))
  have hne : W3.heap.size ≠ w.heap.size := by have := heap_lt HA2.out.s0; have := hB3.size; omega
  have hld4 := (ld_side hh4 rfl).1
  have hst5 := st_side (ds := sideC (.slice lo' n' cap') A5 F5 m o (tlC { t with b0 := false, b1 := t.b0 })) hA4.s0 rfl rfl (sideC_one _ _ _ _ _ _ _ _)
  have hA5 : AH w (putS W4 w.heap.size (sideC (.slice lo' n' cap') A5 F5 m o (tlC { t with b0 := false, b1 := t.b0 }))) (.slice lo' n' cap') A5 F5 m o { t with b0 := false, b1 := t.b0 } #[.int .u8 b, .int .u8 x, .bool ub, .bool uf, .int .u8 k, .int .u8 st, .bool wd, v] := hA4.set (putS_gb _ _ _) (putS_heap hA4.s0 rfl)
  have hp4 := hpr.below hB4
  have hp5 : PRow (putS W4 w.heap.size (sideC (.slice lo' n' cap') A5 F5 m o (tlC { t with b0 := false, b1 := t.b0 }))) B lo' n' cap' (s.sent.drop q ++ s.next) := hp4.off (putS_gb _ _ _) hA4.s0 (by decide) (by decide)
  generalize putS W4 w.heap.size (sideC (.slice lo' n' cap') A5 F5 m o (tlC { t with b0 := false, b1 := t.b0 })) = W5 at *
  obtain ⟨⟨c5, -⟩, ⟨c12, -⟩, -, hz⟩ := hA5.cells
  have z12 := hz 12
  simp only at c12
  have HA5 : Hid (AH w W5 (.slice lo' n' cap') A5 F5 m o { t with b0 := false, b1 := t.b0 } #[.int .u8 b, .int .u8 x, .bool ub, .bool uf, .int .u8 k, .int .u8 st, .bool wd, v] ∧ PRow W5 B lo' n' cap' (s.sent.drop q ++ s.next)) := ⟨hA5, hp5⟩
  have HLO : Hid (∀ ad, lo' = some ad → ∃ ad', lo = some ad' ∧ ad'.block = ad.block) := hlo
  obtain ⟨g, hg⟩ : ∃ g, g = t.pl := ⟨_, rfl⟩
  rw [← hg] at c12 hpl
  have HG : Hid (g = t.pl) := hg
  clear hA4 hA5 hh4 hB4 hB3 hp4 hp5 hpr hlo hz hfr2 hld2 u0' hne hg
  have hg0 : decide ((g : Int) ≥ 0) = true := decide_eq_true (by omega)
  by_cases hgq : g < q
  · have hneg : (g : Int) - q < 0 := by omega
    have hA6 := HA5.out.1.set (t' := { t with b0 := false, b1 := t.b0, pl := t.pl - q }) ((gb_set (k := 12) (.int .i64 ((g : Int) - q))).trans (gb_set (k := 12) (.int .i64 0))) (by rw [← HG.out, show g - q = 0 by omega]; exact side_setp2 HA5.out.1.s0 ((g : Int) - q))
    have hp6 := HA5.out.2.off ((gb_set (w := W5) (b := w.heap.size) (k := 12) (.int .i64 ((g : Int) - q))).trans (gb_set (k := 12) (.int .i64 0))) HA5.out.1.s0 (by decide) (by decide)
    obtain ⟨W6, hW6⟩ : ∃ W6, W6 = (W5.setCell ⟨w.heap.size, 12, none⟩ (.int .i64 ((g : Int) - q))).setCell ⟨w.heap.size, 12, none⟩ (.int .i64 0) := ⟨_, rfl⟩
    rw [← hW6] at hA6 hp6
    have c6 := hA6.cells.1.1
    have hld6 := hA6.cells.2.2.1
    obtain ⟨Y, hY, HY⟩ := hA6.back5 (ds := sideC (.slice lo' n' cap') A5 F5 m o (tlC { t with b0 := false, b1 := t.b0, pl := t.pl - q })) rfl (sideC_one _ _ _ _ _ _ _ _)
    have HP6 : Hid (PRow W6 B lo' n' cap' (s.sent.drop q ++ s.next)) := hp6
    clear hA6 hp6
    go_upto_region 15 with fail
    rw [← hW6]
    clear hW6 c5 c12 z12
    go_wp2
    refine bodyPost_ret (v := .tuple #[.agg (sideC (.slice lo' n' cap') A5 F5 m o (tlC { t with b0 := false, b1 := t.b0, pl := t.pl - q })), .int .i64 q, .int .i64 0]) (by simp [results, Try.results15, asAddr, HY.out.1]) rfl ?_
    exact ⟨_, _, _, rfl, HP6.out.grow HY.out.2.2.1 HY.out.2.2.2, HLO.out, HY.out.2.1⟩
  · obtain ⟨c, hc⟩ : ∃ c : Nat, (g : Int) - q = c := ⟨g - q, by omega⟩
    have hcn : decide ((c : Int) < 0) = false := decide_eq_false (by omega)
    have k1 : IntKind.i64.wrap (c : Int) = c := wrap_small _ (by omega) (by omega)
    have hA6 := HA5.out.1.set (t' := { t with b0 := false, b1 := t.b0, pl := t.pl - q }) (gb_set (k := 12) (.int .i64 (c : Int))) (side_setp HA5.out.1.s0 (t.pl - q) (c : Int) (by rw [← HG.out]; omega))
    have hp6 := HA5.out.2.off (gb_set (w := W5) (b := w.heap.size) (k := 12) (.int .i64 (c : Int))) HA5.out.1.s0 (by decide) (by decide)
    obtain ⟨W6, hW6⟩ : ∃ W6, W6 = W5.setCell ⟨w.heap.size, 12, none⟩ (.int .i64 (c : Int)) := ⟨_, rfl⟩
    rw [← hW6] at hA6 hp6
    have c6 := hA6.cells.1.1
    have hld6 := hA6.cells.2.2.1
    obtain ⟨Y, hY, HY⟩ := hA6.back5 (ds := sideC (.slice lo' n' cap') A5 F5 m o (tlC { t with b0 := false, b1 := t.b0, pl := t.pl - q })) rfl (sideC_one _ _ _ _ _ _ _ _)
    have HP6 : Hid (PRow W6 B lo' n' cap' (s.sent.drop q ++ s.next)) := hp6
    clear hA6 hp6
    go_upto_region 15 with fail
    rw [← hW6]
    clear hW6 c5 c12 z12
    go_wp2
    refine bodyPost_ret (v := .tuple #[.agg (sideC (.slice lo' n' cap') A5 F5 m o (tlC { t with b0 := false, b1 := t.b0, pl := t.pl - q })), .int .i64 q, .int .i64 0]) (by simp [results, Try.results15, asAddr, HY.out.1]) rfl ?_
    exact ⟨_, _, _, rfl, HP6.out.grow HY.out.2.2.1 HY.out.2.2.2, HLO.out, HY.out.2.1⟩

set_option maxRecDepth 100000 in
set_option maxHeartbeats 1000000 in
theorem rtake_any {w : World} {lo : Option Addr} {n cap : Nat} (t : Cs) (a f m o : Int) (b x k st : Int) (ub uf wd : Bool) (v : Value) (R : Bool) (la : Int) (hl0 : 0 ≤ t.last) (hl1 : t.last < 256) (hx0 : 0 ≤ x) (hx1 : x ≤ 255) (hR : R = decide (k = 2 ∧ x = (t.last + 1) % 128)) (hla : la = if R = true then (t.last + 1) % 128 else t.last) :
    Calls Try.prog 17 #[.agg (sideC (.slice lo n cap) a f m o (tlC t)), .agg #[.int .u8 b, .int .u8 x, .bool ub, .bool uf, .int .u8 k, .int .u8 st, .bool wd, v]] w fun e w' => e = .returned (.tuple #[.agg (sideC (.slice lo n cap) a f m o (tlC { t with last := la })), .bool R, .int .i64 0]) ∧ Below w.heap.size w w' := by
  obtain ⟨W, hW, hA⟩ := AH.begin w (.slice lo n cap) a f m o t #[.int .u8 b, .int .u8 x, .bool ub, .bool uf, .int .u8 k, .int .u8 st, .bool wd, v]
  obtain ⟨⟨c5, c10⟩, -, hld, hz⟩ := hA.cells
  have z10 := hz 10
  obtain ⟨⟨-, u1, -, -, u4, -⟩, -⟩ := unit_cells hA.u1
  have HA : Hid (AH w W (.slice lo n cap) a f m o t #[.int .u8 b, .int .u8 x, .bool ub, .bool uf, .int .u8 k, .int .u8 st, .bool wd, v]) := hA
  obtain ⟨nx, hnx⟩ : ∃ nx, (t.last + 1) % 128 = nx := ⟨_, rfl⟩
  rw [hnx] at hR hla
  have k1 : IntKind.i64.wrap (t.last + 1) = t.last + 1 := wrap_small _ (by omega) (by omega)
  have k2 : (t.last + 1).tmod 128 = nx := by rw [Int.tmod_eq_emod_of_nonneg (by omega)]; exact hnx
  have hnx0 : 0 ≤ nx ∧ nx < 128 := by omega
  clear hA hz
  by_cases hk : k = 2
  · by_cases hxn : x = nx
    · obtain rfl : R = true := by rw [hR]; exact decide_eq_true ⟨hk, hxn⟩
      rw [if_pos rfl] at hla
      subst hla hk hxn
      clear hR
      have hA2 := HA.out.set (t' := { t with last := x }) (gb_set (k := 10) (.int .i64 x)) (side_setl HA.out.s0 x)
      obtain ⟨W2, hW2⟩ : ∃ W2, W2 = W.setCell ⟨w.heap.size, 10, none⟩ (.int .i64 x) := ⟨_, rfl⟩
      rw [← hW2] at hA2
      have hld2 := hA2.cells.2.2.1
      obtain ⟨Y, hY, HY⟩ := hA2.back (ds := sideC (.slice lo n cap) a f m o (tlC { t with last := x })) rfl (sideC_one _ _ _ _ _ _ _ _)
      clear hA2
      go_enter Try.func17, Try.ntmps17
      go_upto_region 1 with fail
      rw [← hW]
      clear hW
      go_upto_region 5 with fail
      rw [← hW2]
      clear hW2 c5 c10 u1 u4 hld
      go_wp2
      refine bodyPost_ret (v := .tuple #[.agg (sideC (.slice lo n cap) a f m o (tlC { t with last := x })), .bool true, .int .i64 0]) (by simp [results, Try.results17, asAddr, HY.out.1]) rfl ?_
      exact ⟨rfl, HY.out.2⟩
    · obtain rfl : R = false := by rw [hR]; exact decide_eq_false fun h => hxn h.2
      rw [if_neg (by decide)] at hla
      subst hla hk
      have hb : (x == nx) = false := by rw [beq_eq_false_iff_ne]; exact hxn
      clear hR
      obtain ⟨Y, hY, HY⟩ := HA.out.back (ds := sideC (.slice lo n cap) a f m o (tlC t)) rfl (sideC_one _ _ _ _ _ _ _ _)
      go_enter Try.func17, Try.ntmps17
      go_upto_region 1 with fail
      rw [← hW]
      clear hW
      go_wp2
      refine bodyPost_ret (v := .tuple #[.agg (sideC (.slice lo n cap) a f m o (tlC t)), .bool false, .int .i64 0]) (by simp [results, Try.results17, asAddr, HY.out.1]) rfl ?_
      exact ⟨rfl, HY.out.2⟩
  · obtain rfl : R = false := by rw [hR]; exact decide_eq_false fun h => hk h.1
    rw [if_neg (by decide)] at hla
    subst hla
    have hb : (k == 2) = false := by rw [beq_eq_false_iff_ne]; exact hk
    clear hR
    obtain ⟨Y, hY, HY⟩ := HA.out.back (ds := sideC (.slice lo n cap) a f m o (tlC t)) rfl (sideC_one _ _ _ _ _ _ _ _)
    go_enter Try.func17, Try.ntmps17
    go_upto_region 1 with fail
    rw [← hW]
    clear hW
    go_wp2
    refine bodyPost_ret (v := .tuple #[.agg (sideC (.slice lo n cap) a f m o (tlC t)), .bool false, .int .i64 0]) (by simp [results, Try.results17, asAddr, HY.out.1]) rfl ?_
    exact ⟨rfl, HY.out.2⟩
end Go.Proofs.Ytmnhciildlmjcaa.Tape
