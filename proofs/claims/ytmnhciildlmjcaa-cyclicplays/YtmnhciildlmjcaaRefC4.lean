/- The reference's again of a cyclic way. -/
import Derived.Test.YtmnhciildlmjcaaRefC3
import Derived.Deep.CutBlock
namespace Go.Proofs.Ytmnhciildlmjcaa.Tape
open Go.ChangeShapes Go.WideShapes Go.ChangeAt Go.RowKit
set_option linter.unusedVariables false

theorem side_setp {w : World} {B : Nat} {L : Value} {a f m o : Int} {t : Cs} (h : w.heap[B]? = some (.cells (sideC L a f m o (tlC t)) 28 (0, 0))) (p : Nat) (x : Int) (hx : x = p) : (w.setCell ⟨B, 12, none⟩ (.int .i64 x)).heap[B]? = some (.cells (sideC L a f m o (tlC { t with pl := p })) 28 (0, 0)) := by
  subst hx
  exact row_set (cs := [L, .int .i64 a, .int .i64 f, .int .i64 m, .int .i64 o, .bool true, .int .i64 t.n1, .int .i64 t.n2, .bool true, .bool true, .int .i64 t.last, .bool false, .int .i64 t.pl, .bool t.force, .bool t.b1, .bool t.b0, .bool false, .bool false]) h 12 (.int .i64 p)
theorem side_setf {w : World} {B : Nat} {L : Value} {a f m o : Int} {t : Cs} (h : w.heap[B]? = some (.cells (sideC L a f m o (tlC t)) 28 (0, 0))) (b : Bool) : (w.setCell ⟨B, 13, none⟩ (.bool b)).heap[B]? = some (.cells (sideC L a f m o (tlC { t with force := b })) 28 (0, 0)) :=
  row_set (cs := [L, .int .i64 a, .int .i64 f, .int .i64 m, .int .i64 o, .bool true, .int .i64 t.n1, .int .i64 t.n2, .bool true, .bool true, .int .i64 t.last, .bool false, .int .i64 t.pl, .bool t.force, .bool t.b1, .bool t.b0, .bool false, .bool false]) h 13 (.bool b)

/-- In again: a Side in its block, and the two that go back. -/
structure AG (w Y : World) (L : Value) (a f m o : Int) (t : Cs) : Prop where
  low : Below w.heap.size w Y
  s0 : Y.heap[w.heap.size]? = some (.cells (sideC L a f m o (tlC t)) 28 (0, 0))
  s1 : Y.heap[w.heap.size + 1]? = some (.cells zeroS 28 (0, 0))
  s2 : Y.heap[w.heap.size + 1 + 1]? = some (.cells zeroU 32 (0, 0))

theorem AG.begin (w : World) (L : Value) (a f m o : Int) (t : Cs) : ∃ W, W = ((w.alloc (.cells (sideC L a f m o (tlC t)) 28)).alloc (.cells #[.slice none 0 0, .int .i64 0, .int .i64 0, .int .i64 0, .int .i64 0, .bool false, .int .i64 0, .int .i64 0, .bool false, .bool false, .int .i64 0, .bool false, .int .i64 0, .bool false, .bool false, .bool false, .bool false, .bool false] 28)).alloc (.cells #[.int .u8 0, .int .u8 0, .bool false, .bool false, .int .u8 0, .int .u8 0, .bool false, .slice none 0 0] 32) ∧ AG w W L a f m o t := by
  refine ⟨_, rfl, (((Below.refl w.heap.size w).alloc (Nat.le_refl _) _).alloc (by simp) _).alloc (by simp; omega) _, heap_more (heap_more (heap_alloc_new w _) _) _, heap_more ?_ _, ?_⟩
  · have := heap_alloc_new (w.alloc (.cells (sideC L a f m o (tlC t)) 28)) (.cells zeroS 28)
    simpa [zeroS] using this
  · have := heap_alloc_new ((w.alloc (.cells (sideC L a f m o (tlC t)) 28)).alloc (.cells zeroS 28)) (.cells zeroU 32)
    simpa [zeroU, zeroS] using this
theorem AG.below {w Y Y' : World} {L : Value} {a f m o : Int} {t : Cs} (h : AG w Y L a f m o t) (hb : Below Y.heap.size Y Y') : AG w Y' L a f m o t :=
  ⟨h.low.trans (below_le hb h.low.size), (hb.block _ (heap_lt h.s0)).trans h.s0, (hb.block _ (heap_lt h.s1)).trans h.s1, (hb.block _ (heap_lt h.s2)).trans h.s2⟩
theorem AG.set {w Y Y' : World} {L L' : Value} {a f m o a' f' m' o' : Int} {t t' : Cs} (h : AG w Y L a f m o t) (hg : Y.grownBy Y' (some w.heap.size)) (hs : Y'.heap[w.heap.size]? = some (.cells (sideC L' a' f' m' o' (tlC t')) 28 (0, 0))) : AG w Y' L' a' f' m' o' t' :=
  ⟨gb_below hg h.low (Nat.le_refl _) h.low.size, hs, (hg.block _ (heap_lt h.s1) (by simp)).trans h.s1, (hg.block _ (heap_lt h.s2) (by simp; omega)).trans h.s2⟩
theorem AG.cells {w Y : World} {L : Value} {a f m o : Int} {t : Cs} (h : AG w Y L a f m o t) : (Y.cell? ⟨w.heap.size, 0, none⟩ = some L ∧ Y.cell? ⟨w.heap.size, 1, none⟩ = some (.int .i64 a)) ∧ Y.cell? ⟨w.heap.size, 12, none⟩ = some (.int .i64 t.pl) ∧ Y.cell? ⟨w.heap.size, 13, none⟩ = some (.bool t.force) ∧ (ldS (.pointer (some ⟨w.heap.size, 0, none⟩))).run Try.prog Y = .ok (.agg (sideC L a f m o (tlC t))) Y ∧ ∀ k, Y.frozen? ⟨w.heap.size, k, none⟩ = false :=
  ⟨⟨(side_cells h.s0).1.1, (side_cells h.s0).1.2.1⟩, (side_all h.s0).2.1, (side_all h.s0).2.2.1, (ld_side h.s0 rfl).1, (side_cells h.s0).2⟩
/-- Both go back. -/
theorem AG.back {w Y : World} {lo : Option Addr} {n cap : Nat} {a f m o : Int} {t : Cs} {L : Value} {a2 f2 m2 o2 : Int} {t2 : Cs} (h : AG w Y L a2 f2 m2 o2 t2) {us : Array Value} (h8 : us.size = 8) (h1 : us.all (·.oneCell') = true) :
    ∃ Y1 Y2, (stS (.pointer (some ⟨w.heap.size + 1, 0, none⟩)) (.agg (sideC (.slice lo n cap) a f m o (tlC t)))).run Try.prog Y = .ok () Y1 ∧ (stU (.pointer (some ⟨w.heap.size + 1 + 1, 0, none⟩)) (.agg us)).run Try.prog Y1 = .ok () Y2 ∧
      Hid ((loadVar 28 ⟨w.heap.size + 1, 0, none⟩).run Try.prog Y2 = .ok (.agg (sideC (.slice lo n cap) a f m o (tlC t))) Y2 ∧ (loadVar 32 ⟨w.heap.size + 1 + 1, 0, none⟩).run Try.prog Y2 = .ok (.agg us) Y2) ∧ Below w.heap.size w Y2 ∧ (Y1.heap[w.heap.size]? = Y.heap[w.heap.size]? ∧ Y2.heap[w.heap.size]? = Y.heap[w.heap.size]?) := by
  have g1 := putS_gb Y (w.heap.size + 1) (sideC (.slice lo n cap) a f m o (tlC t))
  have hb1 := putS_heap (ds := sideC (.slice lo n cap) a f m o (tlC t)) h.s1 rfl
  have hu1 := (g1.block _ (heap_lt h.s2) (by simp)).trans h.s2
  have hl0 := g1.block _ (heap_lt h.s0) (by simp)
  have hB1 := gb_below g1 h.low (Nat.le_succ _) h.low.size
  obtain ⟨Y2, e1, e2, e3, e4⟩ := unit_back hu1 rfl h8 h1 hB1 (show w.heap.size ≤ w.heap.size + 1 + 1 by omega) hB1.size
  have hb2 := (e4.block _ (heap_lt hb1) (by simp)).trans hb1
  exact ⟨_, Y2, st_side h.s1 rfl rfl (sideC_one _ _ _ _ _ _ _ _), e1, ⟨(ld_side hb2 rfl).2, e2.out⟩, e3, hl0, (e4.block _ (Nat.lt_of_lt_of_le (heap_lt h.s0) g1.size) (by simp; omega)).trans hl0⟩

/-- Both go back, in either order; a unit of its own is loaded on the way. -/
theorem AG.back2 {w Y : World} {lo : Option Addr} {n cap : Nat} {a f m o : Int} {t : Cs} (h : AG w Y (.slice lo n cap) a f m o t) {us : Array Value} {b : Nat} (hb : Y.heap[b]? = some (.cells us 32 (0, 0))) (h8 : us.size = 8) (h1 : us.all (·.oneCell') = true) (hbw : w.heap.size + 1 + 1 < b) :
    ∃ Y1 Y2 V1 V2, ((stS (.pointer (some ⟨w.heap.size + 1, 0, none⟩)) (.agg (sideC (.slice lo n cap) a f m o (tlC t)))).run Try.prog Y = .ok () Y1 ∧ (stU (.pointer (some ⟨w.heap.size + 1 + 1, 0, none⟩)) (.agg us)).run Try.prog Y1 = .ok () Y2 ∧
      (stU (.pointer (some ⟨w.heap.size + 1 + 1, 0, none⟩)) (.agg us)).run Try.prog Y = .ok () V1 ∧ (stS (.pointer (some ⟨w.heap.size + 1, 0, none⟩)) (.agg (sideC (.slice lo n cap) a f m o (tlC t)))).run Try.prog V1 = .ok () V2 ∧
      (ldU (.pointer (some ⟨b, 0, none⟩))).run Try.prog Y1 = .ok (.agg us) Y1 ∧ (ldS (.pointer (some ⟨w.heap.size, 0, none⟩))).run Try.prog V1 = .ok (.agg (sideC (.slice lo n cap) a f m o (tlC t))) V1) ∧
      Hid (((loadVar 28 ⟨w.heap.size + 1, 0, none⟩).run Try.prog Y2 = .ok (.agg (sideC (.slice lo n cap) a f m o (tlC t))) Y2 ∧ (loadVar 32 ⟨w.heap.size + 1 + 1, 0, none⟩).run Try.prog Y2 = .ok (.agg us) Y2) ∧ (loadVar 28 ⟨w.heap.size + 1, 0, none⟩).run Try.prog V2 = .ok (.agg (sideC (.slice lo n cap) a f m o (tlC t))) V2 ∧ (loadVar 32 ⟨w.heap.size + 1 + 1, 0, none⟩).run Try.prog V2 = .ok (.agg us) V2) ∧
      Hid ((Below w.heap.size w Y2 ∧ ∀ (g : Nat) cur, Y.heap[g]? = some (.cells cur 5 (0, 0)) → Y2.heap[g]? = Y.heap[g]?) ∧ (Below w.heap.size w V2 ∧ ∀ (g : Nat) cur, Y.heap[g]? = some (.cells cur 5 (0, 0)) → V2.heap[g]? = Y.heap[g]?)) := by
  have hs1 := heap_lt h.s1
  have hs2 := heap_lt h.s2
  have five : ∀ (Y1 Y2 : World) (p q : Nat) cp cq tp tq, Y.heap[p]? = some (.cells cp tp (0, 0)) → Y.heap[q]? = some (.cells cq tq (0, 0)) → tp ≠ 5 → tq ≠ 5 → Y.grownBy Y1 (some p) → Y1.grownBy Y2 (some q) → ∀ (g : Nat) cur, Y.heap[g]? = some (.cells cur 5 (0, 0)) → Y2.heap[g]? = Y.heap[g]? := fun Y1 Y2 p q cp cq tp tq hp hq n1 n2 g1 g2 g cur hg => by
    have a1 := g1.block g (heap_lt hg) (fun e => by
      simp only [Option.some.injEq] at e
      subst e
      rw [hp] at hg
      simp only [Option.some.injEq, Obj.cells.injEq] at hg
      exact n1 hg.2.1)
    have a2 := g2.block g (Nat.lt_of_lt_of_le (heap_lt hg) g1.size) (fun e => by
      simp only [Option.some.injEq] at e
      subst e
      rw [hq] at hg
      simp only [Option.some.injEq, Obj.cells.injEq] at hg
      exact n2 hg.2.1)
    exact a2.trans a1
  -- the Side first
  have g1 := putS_gb Y (w.heap.size + 1) (sideC (.slice lo n cap) a f m o (tlC t))
  have p1 := putS_heap (ds := sideC (.slice lo n cap) a f m o (tlC t)) h.s1 rfl
  have u1 := (g1.block _ hs2 (by simp)).trans h.s2
  have l1 := (g1.block _ (heap_lt hb) (by simp; omega)).trans hb
  have B1 := gb_below g1 h.low (Nat.le_succ _) h.low.size
  have g2 := putU_gb (putS Y (w.heap.size + 1) (sideC (.slice lo n cap) a f m o (tlC t))) (w.heap.size + 1 + 1) us
  have p2 := (g2.block _ (heap_lt p1) (by simp)).trans p1
  have q2 := putU_heap (ds := us) u1 h8.symm
  have B2 := gb_below g2 B1 (show w.heap.size ≤ w.heap.size + 1 + 1 by omega) B1.size
  -- the unit first
  have k1 := putU_gb Y (w.heap.size + 1 + 1) us
  have r1 := putU_heap (ds := us) h.s2 h8.symm
  have v1 := (k1.block _ hs1 (by simp)).trans h.s1
  have m1 := (k1.block _ (heap_lt h.s0) (by simp; omega)).trans h.s0
  have C1 := gb_below k1 h.low (show w.heap.size ≤ w.heap.size + 1 + 1 by omega) h.low.size
  have k2 := putS_gb (putU Y (w.heap.size + 1 + 1) us) (w.heap.size + 1) (sideC (.slice lo n cap) a f m o (tlC t))
  have r2 := (k2.block _ (heap_lt r1) (by simp)).trans r1
  have w2 := putS_heap (ds := sideC (.slice lo n cap) a f m o (tlC t)) v1 rfl
  have C2 := gb_below k2 C1 (Nat.le_succ _) C1.size
  exact ⟨_, _, _, _, ⟨st_side h.s1 rfl rfl (sideC_one _ _ _ _ _ _ _ _), st_unit u1 rfl h8 h1, st_unit h.s2 rfl h8 h1, st_side v1 rfl rfl (sideC_one _ _ _ _ _ _ _ _), (ld_unit l1 h8).1, (ld_side m1 rfl).1⟩,
    ⟨⟨(ld_side p2 rfl).2, (ld_unit q2 h8).2⟩, (ld_side w2 rfl).2, (ld_unit r2 h8).2⟩, ⟨B2, five _ _ _ _ _ _ _ _ h.s1 h.s2 (by decide) (by decide) g1 g2⟩, C2, five _ _ _ _ _ _ _ _ h.s2 h.s1 (by decide) (by decide) k1 k2⟩

attribute [local go_sem ↓] ldS_def stS_def ldU_def stU_def

set_option maxRecDepth 100000 in
set_option maxHeartbeats 4000000 in
theorem ragain_b1 {w : World} {B : Nat} {lo : Option Addr} {n cap : Nat} (s : Hs) (t t1 : Cs) (m o : Int) (hr : PRow w B lo n cap (s.sent ++ s.next)) (hsm : n ≤ 1000) (h127 : s.sent.length < 127) (hl0 : 0 ≤ t.last) (hl1 : t.last < 256) (hf : s.first < 128) (hpl : t.pl ≤ 1000) (hpos : 0 < s.sent.length) (ht1 : t1 = { t with force := t.force || t.much s }) (hn : s.next ≠ []) (hF : (t.force || t.much s) = true) :
    Calls Try.prog 33 #[.agg (sideC (.slice lo n cap) s.sent.length s.first m o (tlC t))] w fun e w' => ∃ v, e = .returned (.tuple #[.agg (sideC (.slice lo n cap) s.sent.length s.first m o (tlC (t1.again s).1)), .agg (uC t.last (t1.again s).2.1 true true (kd (t1.again s).2.2) v)]) ∧ InfoAt w' B v (t1.again s).2.2 ∧ Below w.heap.size w w' := by
  obtain ⟨W, hW, hA⟩ := AG.begin w (.slice lo n cap) s.sent.length s.first m o t
  obtain ⟨⟨c0, c1⟩, c12, c13, hld, hz⟩ := hA.cells
  have hlen := hr.len
  rw [List.length_append] at hlen
  have hrW := hr.below (below_le hA.low (Nat.le_refl _))
  have hmu1 : ∀ t2 : Cs, t2.n1 = t.n1 → t2.n2 = t.n2 → t2.much s = t.much s := fun t2 h1 h2 => by unfold Cs.much Cs.fits; rw [h1, h2]
  have HMU1 : Hid (∀ t2 : Cs, t2.n1 = t.n1 → t2.n2 = t.n2 → t2.much s = t.much s) := hmu1
  have hnl : 0 < s.next.length := List.length_pos_iff.2 hn
  have hmore : s.sent.length < n := by omega
  have hpn : s.sent.length ≤ n := by omega
  have hmu : t.much s = !t.fits s := by
    unfold Cs.much
    rw [decide_eq_true hnl, Bool.true_and]
  have hft : ∀ (Y : World) (t2 : Cs), Below w.heap.size w Y → t2.n1 = t.n1 → t2.n2 = t.n2 → Calls Try.prog 49 #[.agg (sideC (.slice lo n cap) s.sent.length s.first m o (tlC t2))] Y fun e w' => e = .returned (.bool (!t.much s)) ∧ Below Y.heap.size Y w' := fun Y t2 hY h1 h2 => by
    have := rfits_any (w := Y) s t2 m o (hr.below hY) hn hsm
    rw [show t2.fits s = t.fits s by unfold Cs.fits; rw [h1, h2]] at this
    rw [hmu, Bool.not_not]
    exact this
  have HF : Hid ((t.force || t.much s) = true) := hF
  obtain ⟨M, hM⟩ : ∃ M, M = t.much s := ⟨_, rfl⟩
  have HM : Hid (M = t.much s) := hM
  rw [← hM] at hft
  obtain ⟨N, hN⟩ : ∃ N, N = !M := ⟨_, rfl⟩
  rw [← hN] at hft
  have hN2 : (!N) = M := by rw [hN, Bool.not_not]
  clear hN hM hmu hnl
  have HFT : Hid (∀ (Y : World) (t2 : Cs), Below w.heap.size w Y → t2.n1 = t.n1 → t2.n2 = t.n2 → Calls Try.prog 49 #[.agg (sideC (.slice lo n cap) s.sent.length s.first m o (tlC t2))] Y fun e w' => e = .returned (.bool N) ∧ Below Y.heap.size Y w') := hft
  clear hft
  have HT1 : Hid (t1 = { t with force := t.force || t.much s }) := ht1
  have HA : Hid (AG w W (.slice lo n cap) s.sent.length s.first m o t) := hA
  have HR : Hid (∀ Y, Below w.heap.size w Y → PRow Y B lo n cap (s.sent ++ s.next)) := fun Y hY => hr.below hY
  clear hA hr hrW hmu1 hlen hn ht1 hF
  generalize hpq : s.sent.length = p at *
  have HPQ : Hid (s.sent.length = p) := hpq
  clear hpq
  go_enter Try.func33, Try.ntmps33
  go_upto_region 1 with fail
  rw [← hW]
  clear hW
  have hf1 := HFT.out W t HA.out.low rfl rfl
  go_upto_if 19 with (go_at_call 49; refine hf1.mono ?_; rintro e W1 ⟨rfl, hB1⟩)
  have hA1 := HA.out.below hB1
  clear hf1 hld hB1
  go_cut [] from 5 (fun Y => AG w Y (.slice lo n cap) p s.first m o { t with force := true })
  case first =>
    cases M
    · have HTF : Hid (t.force = true) := by
        have h0 := HF.out
        rw [← HM.out, Bool.or_false] at h0
        exact h0
      have e1 : ({ t with force := true } : Cs) = t := by rw [← HTF.out]
      rw [← e1] at hA1
      go_wp2
      go_meet
      case rel => exact hA1
    · obtain ⟨-, -, d13, -, dz⟩ := hA1.cells
      have dz13 := dz 13
      have hA2 := hA1.set (t' := { t with force := true }) (gb_set (k := 13) (.bool true)) (side_setf hA1.s0 true)
      clear hA1 dz
      go_wp2
      go_meet
      case rel => exact hA2
  case rest =>
    have HC : Hid (AG w wc (.slice lo n cap) p s.first m o { t with force := true }) := hcut
    obtain ⟨⟨d0, d1⟩, d12, d13, dld, dz⟩ := hcut.cells
    simp only at d12 d13
    clear hcut c0 c1 c12 c13 hz hA1
    by_cases hp : t.pl < p
    · have q1 : decide ((t.pl : Int) < 0) = false := decide_eq_false (by omega)
      have q2 : decide ((t.pl : Int) ≥ (p : Int)) = false := decide_eq_false (by omega)
      obtain ⟨g, off, vo, vc, hlo, hcv, hmv⟩ := (HR.out _ HC.out.low).get t.pl (by rw [List.length_append, HPQ.out]; omega)
      subst hlo
      have hmg := rmessage_any g off n cap t.pl vo _ vc p s.first m o (tlC ({ t with force := true } : Cs)) wc hl0 hl1 (by omega) (by omega) (by omega) (by omega) hcv
      rw [show (tlC ({ t with force := true } : Cs)).bib = true from rfl, show (tlC ({ t with force := true } : Cs)).fib = true from rfl, show (tlC ({ t with force := true } : Cs)).last = t.last from rfl] at hmg
      have hel : (s.sent ++ s.next)[t.pl]'(by rw [List.length_append, HPQ.out]; omega) = s.sent[t.pl]'(by rw [HPQ.out]; omega) := List.getElem_append_left (by rw [HPQ.out]; omega)
      simp only [hel] at hmg hmv
      obtain ⟨x, hx⟩ : ∃ x, x = s.sent[t.pl]'(by rw [HPQ.out]; omega) := ⟨_, rfl⟩
      rw [← hx] at hmg hmv
      have HX : Hid (s.sent[t.pl]? = some x) := by rw [hx]; exact List.getElem?_eq_getElem _
      have HMV : Hid (HMsg wc B (.slice vo x.length vc) x) := hmv
      clear hel hx hcv hmv
      have HAN : Hid (t1.again s = (({ t with force := true, pl := t.pl + 1 } : Cs), ((s.first : Int) + t.pl) % 128, some x)) := by
        show _ = _
        rw [HT1.out, HF.out]
        unfold Cs.again
        simp only
        rw [HPQ.out, if_pos hp, HX.out]
      go_wp2_with fail
      refine hmg.mono ?_
      rintro e W2 ⟨rfl, hB2⟩
      obtain ⟨W3, hst3, hB3, hh3⟩ := kept_unit W2 t.last (((s.first : Int) + t.pl) % 128) true true 2 vo x.length vc
      have hB23 := hB2.trans (below_le hB3 hB2.size)
      have hA3 := HC.out.below hB23
      obtain ⟨-, f12, -, -, fz⟩ := hA3.cells
      have fz12 := fz 12
      have hA4 := hA3.set (t' := ({ t with force := true, pl := t.pl + 1 } : Cs)) (gb_set (k := 12) (.int .i64 ((t.pl : Int) + 1))) (side_setp hA3.s0 (t.pl + 1) ((t.pl : Int) + 1) (by omega))
      have hne4 : W2.heap.size ≠ w.heap.size := by have := heap_lt HC.out.s0; have := hB2.size; omega
      have hh4 := ((gb_set (w := W3) (b := w.heap.size) (k := 12) (.int .i64 ((t.pl : Int) + 1))).block W2.heap.size (heap_lt hh3) (fun e => hne4 (by simpa using e))).trans hh3
      have hm4 := (HMV.out.below hB23).off (gb_set (b := w.heap.size) (k := 12) (.int .i64 ((t.pl : Int) + 1))) hA3.s0 (by decide)
      obtain ⟨W4, hW4⟩ : ∃ W4, W4 = W3.setCell ⟨w.heap.size, 12, none⟩ (.int .i64 ((t.pl : Int) + 1)) := ⟨_, rfl⟩
      rw [← hW4] at hA4 hh4 hm4
      have HA4 : Hid (AG w W4 (.slice (some ⟨g, off, none⟩) n cap) p s.first m o ({ t with force := true, pl := t.pl + 1 } : Cs) ∧ W4.heap[W2.heap.size]? = some (.cells (uC t.last (((s.first : Int) + t.pl) % 128) true true 2 (.slice vo x.length vc)) 32 (0, 0)) ∧ HMsg W4 B (.slice vo x.length vc) x) := ⟨hA4, hh4, hm4⟩
      have HNE : Hid (w.heap.size + 1 + 1 < W2.heap.size) := by have := heap_lt HC.out.s2; have := hB2.size; show _ < _; omega
      clear hB2 hB3 hB23 hh3 hA3 hA4 hh4 hm4 hmg fz hne4
      go_upto_region 15 with fail
      rw [← hW4]
      clear hW4 f12 fz12 hst3
      have hBd : Below W4.heap.size W4 W4.drew := (Below.refl _ _).drew
      have hA5 := HA4.out.1.below hBd
      have hh5 := (hBd.block _ (heap_lt HA4.out.2.1)).trans HA4.out.2.1
      have hldS := (ld_side hA5.s0 rfl).1
      have hldU := (ld_unit hh5 rfl).1
      have hbw : w.heap.size + 1 + 1 < W2.heap.size := by exact HNE.out
      obtain ⟨Y1, Y2, V1, V2, ⟨hst1, hst2, hst3, hst4, hst5, hst6⟩, HY, HBY⟩ := hA5.back2 hh5 rfl (uC_one _ _ _ _ _ _ _ _) hbw
      clear hA5 hh5 hBd hbw
      go_wp2_with fail
      go_region
      all_goals
        go_wp2
        refine bodyPost_ret (v := .tuple #[.agg (sideC (.slice (some ⟨g, off, none⟩) n cap) p s.first m o (tlC ({ t with force := true, pl := t.pl + 1 } : Cs))), .agg (uC t.last (((s.first : Int) + t.pl) % 128) true true 2 (.slice vo x.length vc))]) (by first | (simp [results, Try.results33, asAddr, HY.out.1.1, HY.out.1.2]; done) | (simp [results, Try.results33, asAddr, HY.out.2.1, HY.out.2.2]; done)) rfl ?_
        rw [HAN.out]
        first
        | (exact ⟨_, rfl, HMsg.at_ (HA4.out.2.2.below ((Below.refl _ _).drew)) (fun g cur _ hg => HBY.out.1.2 g cur hg), HBY.out.1.1⟩)
        | (exact ⟨_, rfl, HMsg.at_ (HA4.out.2.2.below ((Below.refl _ _).drew)) (fun g cur _ hg => HBY.out.2.2 g cur hg), HBY.out.2.1⟩)
    · have hge : p ≤ t.pl := by omega
      have q1 : decide ((t.pl : Int) < 0) = false := decide_eq_false (by omega)
      have dz12 := dz 12
      have hA9 := HC.out.set (t' := ({ t with force := true, pl := 0 } : Cs)) (gb_set (k := 12) (.int .i64 0)) (side_setp HC.out.s0 0 0 rfl)
      obtain ⟨W9, hW9⟩ : ∃ W9, W9 = wc.setCell ⟨w.heap.size, 12, none⟩ (.int .i64 0) := ⟨_, rfl⟩
      rw [← hW9] at hA9
      have hf9 := HFT.out W9 ({ t with force := true, pl := 0 } : Cs) hA9.low rfl rfl
      have hld9 := (ld_side hA9.s0 rfl).1
      have HA9 : Hid (AG w W9 (.slice lo n cap) p s.first m o ({ t with force := true, pl := 0 } : Cs)) := hA9
      clear hA9
      go_upto_region 10 with fail
      rw [← hW9]
      clear hW9 d0 d1 d12 d13 dld dz dz12
      go_upto_region 11 with (go_at_call 49; refine hf9.mono ?_; rintro e W5 ⟨rfl, hB5⟩; have hA5 := HA9.out.below hB5; obtain ⟨-, -, g13, -, gz⟩ := hA5.cells; have gz13 := gz 13)
      have hA6 := hA5.set (t' := ({ t with force := M, pl := 0 } : Cs)) (gb_set (k := 13) (.bool M)) (side_setf hA5.s0 M)
      obtain ⟨W6, hW6⟩ : ∃ W6, W6 = W5.setCell ⟨w.heap.size, 13, none⟩ (.bool M) := ⟨_, rfl⟩
      rw [← hW6] at hA6
      rw [← hW6]
      clear hf9 hld9 hA5 g13 gz gz13 hW6 hB5
      obtain ⟨⟨e0, e1⟩, e12, e13, eld, ez⟩ := hA6.cells
      have e12' : W6.cell? ⟨w.heap.size, 12, none⟩ = some (.int .i64 0) := e12
      simp only at e13
      have HA6 : Hid (AG w W6 (.slice lo n cap) p s.first m o ({ t with force := M, pl := 0 } : Cs)) := hA6
      clear hA6 e12 ez
      obtain ⟨g, off, vo, vc, hlo, hcv, hmv⟩ := (HR.out _ HA6.out.low).get 0 (by rw [List.length_append, HPQ.out]; omega)
      subst hlo
      have hmg := rmessage_any g off n cap 0 vo _ vc p s.first m o (tlC ({ t with force := M, pl := 0 } : Cs)) W6 hl0 hl1 (by omega) (by omega) (by omega) (by omega) hcv
      rw [show (tlC ({ t with force := M, pl := 0 } : Cs)).bib = true from rfl, show (tlC ({ t with force := M, pl := 0 } : Cs)).fib = true from rfl, show (tlC ({ t with force := M, pl := 0 } : Cs)).last = t.last from rfl] at hmg
      have hel : (s.sent ++ s.next)[0]'(by rw [List.length_append, HPQ.out]; omega) = s.sent[0]'(by rw [HPQ.out]; omega) := List.getElem_append_left (by rw [HPQ.out]; omega)
      simp only [hel] at hmg hmv
      obtain ⟨x, hx⟩ : ∃ x, x = s.sent[0]'(by rw [HPQ.out]; omega) := ⟨_, rfl⟩
      rw [← hx] at hmg hmv
      have HX : Hid (s.sent[0]? = some x) := by rw [hx]; exact List.getElem?_eq_getElem _
      have HMV : Hid (HMsg W6 B (.slice vo x.length vc) x) := hmv
      clear hel hx hcv hmv
      rw [show ((s.first : Int) + ((0 : Nat) : Int)) % 128 = (s.first : Int) % 128 by rw [Int.natCast_zero, Int.add_zero], show ((0 : Nat) : Int) = 0 from rfl] at hmg
      have HAN : Hid (t1.again s = (({ t with force := M, pl := 1 } : Cs), (s.first : Int) % 128, some x)) := by
        show _ = _
        rw [HT1.out, HF.out]
        unfold Cs.again
        simp only
        rw [HPQ.out, if_neg hp, if_pos hpos, HX.out, HMU1.out ({ t with force := true } : Cs) rfl rfl, ← HM.out]
      go_wp2_with fail
      refine hmg.mono ?_
      rintro e W2 ⟨rfl, hB2⟩
      obtain ⟨W3, hst3, hB3, hh3⟩ := kept_unit W2 t.last ((s.first : Int) % 128) true true 2 vo x.length vc
      have hB23 := hB2.trans (below_le hB3 hB2.size)
      have hA3 := HA6.out.below hB23
      obtain ⟨-, f12, -, -, fz⟩ := hA3.cells
      have fz12 := fz 12
      have hA4 := hA3.set (t' := ({ t with force := M, pl := 1 } : Cs)) (gb_set (k := 12) (.int .i64 1)) (side_setp hA3.s0 (1) 1 (by omega))
      have hne4 : W2.heap.size ≠ w.heap.size := by have := heap_lt HA6.out.s0; have := hB2.size; omega
      have hh4 := ((gb_set (w := W3) (b := w.heap.size) (k := 12) (.int .i64 1)).block W2.heap.size (heap_lt hh3) (fun e => hne4 (by simpa using e))).trans hh3
      have hm4 := (HMV.out.below hB23).off (gb_set (b := w.heap.size) (k := 12) (.int .i64 1)) hA3.s0 (by decide)
      obtain ⟨W4, hW4⟩ : ∃ W4, W4 = W3.setCell ⟨w.heap.size, 12, none⟩ (.int .i64 1) := ⟨_, rfl⟩
      rw [← hW4] at hA4 hh4 hm4
      have HA4 : Hid (AG w W4 (.slice (some ⟨g, off, none⟩) n cap) p s.first m o ({ t with force := M, pl := 1 } : Cs) ∧ W4.heap[W2.heap.size]? = some (.cells (uC t.last ((s.first : Int) % 128) true true 2 (.slice vo x.length vc)) 32 (0, 0)) ∧ HMsg W4 B (.slice vo x.length vc) x) := ⟨hA4, hh4, hm4⟩
      have HNE : Hid (w.heap.size + 1 + 1 < W2.heap.size) := by have := heap_lt HA6.out.s2; have := hB2.size; show _ < _; omega
      clear hB2 hB3 hB23 hh3 hA3 hA4 hh4 hm4 hmg fz hne4
      go_upto_region 15 with fail
      rw [← hW4]
      clear hW4 f12 fz12 hst3
      have hBd : Below W4.heap.size W4 W4.drew := (Below.refl _ _).drew
      have hA5 := HA4.out.1.below hBd
      have hh5 := (hBd.block _ (heap_lt HA4.out.2.1)).trans HA4.out.2.1
      have hldS := (ld_side hA5.s0 rfl).1
      have hldU := (ld_unit hh5 rfl).1
      have hbw : w.heap.size + 1 + 1 < W2.heap.size := by exact HNE.out
      obtain ⟨Y1, Y2, V1, V2, ⟨hst1, hst2, hst3, hst4, hst5, hst6⟩, HY, HBY⟩ := hA5.back2 hh5 rfl (uC_one _ _ _ _ _ _ _ _) hbw
      clear hA5 hh5 hBd hbw
      go_wp2_with fail
      go_region
      all_goals
        go_wp2
        refine bodyPost_ret (v := .tuple #[.agg (sideC (.slice (some ⟨g, off, none⟩) n cap) p s.first m o (tlC ({ t with force := M, pl := 1 } : Cs))), .agg (uC t.last ((s.first : Int) % 128) true true 2 (.slice vo x.length vc))]) (by first | (simp [results, Try.results33, asAddr, HY.out.1.1, HY.out.1.2]; done) | (simp [results, Try.results33, asAddr, HY.out.2.1, HY.out.2.2]; done)) rfl ?_
        rw [HAN.out]
        first
        | (exact ⟨_, rfl, HMsg.at_ (HA4.out.2.2.below ((Below.refl _ _).drew)) (fun g cur _ hg => HBY.out.1.2 g cur hg), HBY.out.1.1⟩)
        | (exact ⟨_, rfl, HMsg.at_ (HA4.out.2.2.below ((Below.refl _ _).drew)) (fun g cur _ hg => HBY.out.2.2 g cur hg), HBY.out.2.1⟩)


set_option maxRecDepth 100000 in
set_option maxHeartbeats 4000000 in
theorem ragain_b0 {w : World} {B : Nat} {lo : Option Addr} {n cap : Nat} (s : Hs) (t t1 : Cs) (m o : Int) (hr : PRow w B lo n cap (s.sent ++ s.next)) (hsm : n ≤ 1000) (h127 : s.sent.length < 127) (hl0 : 0 ≤ t.last) (hl1 : t.last < 256) (hf : s.first < 128) (hpl : t.pl ≤ 1000) (hpos : 0 < s.sent.length) (ht1 : t1 = { t with force := t.force || t.much s }) (hn : s.next = []) :
    Calls Try.prog 33 #[.agg (sideC (.slice lo n cap) s.sent.length s.first m o (tlC t))] w fun e w' => ∃ v, e = .returned (.tuple #[.agg (sideC (.slice lo n cap) s.sent.length s.first m o (tlC (t1.again s).1)), .agg (uC t.last (t1.again s).2.1 true true (kd (t1.again s).2.2) v)]) ∧ InfoAt w' B v (t1.again s).2.2 ∧ Below w.heap.size w w' := by
  obtain ⟨W, hW, hA⟩ := AG.begin w (.slice lo n cap) s.sent.length s.first m o t
  obtain ⟨⟨c0, c1⟩, c12, c13, hld, hz⟩ := hA.cells
  have hlen := hr.len
  rw [List.length_append] at hlen
  have hrW := hr.below (below_le hA.low (Nat.le_refl _))
  have hmu1 : ∀ t2 : Cs, t2.n1 = t.n1 → t2.n2 = t.n2 → t2.much s = t.much s := fun t2 h1 h2 => by unfold Cs.much Cs.fits; rw [h1, h2]
  have HMU1 : Hid (∀ t2 : Cs, t2.n1 = t.n1 → t2.n2 = t.n2 → t2.much s = t.much s) := hmu1
  have hnl : s.next.length = 0 := by rw [hn]; rfl
  have hmore : ¬ s.sent.length < n := by omega
  have hpn : s.sent.length ≤ n := by omega
  have HM : Hid (false = t.much s) := by
    show _ = _
    unfold Cs.much
    rw [hnl]
    rfl
  have HF : Hid ((t.force || t.much s) = t.force) := by
    show _ = _
    rw [← HM.out, Bool.or_false]
  clear hnl
  have HT1 : Hid (t1 = { t with force := t.force || t.much s }) := ht1
  have HA : Hid (AG w W (.slice lo n cap) s.sent.length s.first m o t) := hA
  have HR : Hid (∀ Y, Below w.heap.size w Y → PRow Y B lo n cap (s.sent ++ s.next)) := fun Y hY => hr.below hY
  clear hA hr hrW hmu1 hlen hn ht1
  generalize hpq : s.sent.length = p at *
  have HPQ : Hid (s.sent.length = p) := hpq
  clear hpq
  go_enter Try.func33, Try.ntmps33
  go_upto_region 1 with fail
  rw [← hW]
  clear hW
  have HC : Hid (AG w W (.slice lo n cap) p s.first m o t) := HA.out
  obtain ⟨⟨d0, d1⟩, d12, d13, dld, dz⟩ := HC.out.cells
  obtain ⟨b, hb⟩ : ∃ b, b = t.force := ⟨_, rfl⟩
  rw [← hb] at d13
  clear c0 c1 c12 c13 hz hb
  cases b
  all_goals
    by_cases hp : t.pl < p
    · have q1 : decide ((t.pl : Int) < 0) = false := decide_eq_false (by omega)
      have q2 : decide ((t.pl : Int) ≥ (p : Int)) = false := decide_eq_false (by omega)
      obtain ⟨g, off, vo, vc, hlo, hcv, hmv⟩ := (HR.out _ HC.out.low).get t.pl (by rw [List.length_append, HPQ.out]; omega)
      subst hlo
      have hmg := rmessage_any g off n cap t.pl vo _ vc p s.first m o (tlC t) W hl0 hl1 (by omega) (by omega) (by omega) (by omega) hcv
      rw [show (tlC t).bib = true from rfl, show (tlC t).fib = true from rfl, show (tlC t).last = t.last from rfl] at hmg
      have hel : (s.sent ++ s.next)[t.pl]'(by rw [List.length_append, HPQ.out]; omega) = s.sent[t.pl]'(by rw [HPQ.out]; omega) := List.getElem_append_left (by rw [HPQ.out]; omega)
      simp only [hel] at hmg hmv
      obtain ⟨x, hx⟩ : ∃ x, x = s.sent[t.pl]'(by rw [HPQ.out]; omega) := ⟨_, rfl⟩
      rw [← hx] at hmg hmv
      have HX : Hid (s.sent[t.pl]? = some x) := by rw [hx]; exact List.getElem?_eq_getElem _
      have HMV : Hid (HMsg W B (.slice vo x.length vc) x) := hmv
      clear hel hx hcv hmv
      have HAN : Hid (t1.again s = (({ t with force := t.force, pl := t.pl + 1 } : Cs), ((s.first : Int) + t.pl) % 128, some x)) := by
        show _ = _
        rw [HT1.out, HF.out]
        unfold Cs.again
        simp only
        rw [HPQ.out, if_pos hp, HX.out]
      go_wp2_with fail
      refine hmg.mono ?_
      rintro e W2 ⟨rfl, hB2⟩
      obtain ⟨W3, hst3, hB3, hh3⟩ := kept_unit W2 t.last (((s.first : Int) + t.pl) % 128) true true 2 vo x.length vc
      have hB23 := hB2.trans (below_le hB3 hB2.size)
      have hA3 := HC.out.below hB23
      obtain ⟨-, f12, -, -, fz⟩ := hA3.cells
      have fz12 := fz 12
      have hA4 := hA3.set (t' := ({ t with force := t.force, pl := t.pl + 1 } : Cs)) (gb_set (k := 12) (.int .i64 ((t.pl : Int) + 1))) (side_setp hA3.s0 (t.pl + 1) ((t.pl : Int) + 1) (by omega))
      have hne4 : W2.heap.size ≠ w.heap.size := by have := heap_lt HC.out.s0; have := hB2.size; omega
      have hh4 := ((gb_set (w := W3) (b := w.heap.size) (k := 12) (.int .i64 ((t.pl : Int) + 1))).block W2.heap.size (heap_lt hh3) (fun e => hne4 (by simpa using e))).trans hh3
      have hm4 := (HMV.out.below hB23).off (gb_set (b := w.heap.size) (k := 12) (.int .i64 ((t.pl : Int) + 1))) hA3.s0 (by decide)
      obtain ⟨W4, hW4⟩ : ∃ W4, W4 = W3.setCell ⟨w.heap.size, 12, none⟩ (.int .i64 ((t.pl : Int) + 1)) := ⟨_, rfl⟩
      rw [← hW4] at hA4 hh4 hm4
      have HA4 : Hid (AG w W4 (.slice (some ⟨g, off, none⟩) n cap) p s.first m o ({ t with force := t.force, pl := t.pl + 1 } : Cs) ∧ W4.heap[W2.heap.size]? = some (.cells (uC t.last (((s.first : Int) + t.pl) % 128) true true 2 (.slice vo x.length vc)) 32 (0, 0)) ∧ HMsg W4 B (.slice vo x.length vc) x) := ⟨hA4, hh4, hm4⟩
      have HNE : Hid (w.heap.size + 1 + 1 < W2.heap.size) := by have := heap_lt HC.out.s2; have := hB2.size; show _ < _; omega
      clear hB2 hB3 hB23 hh3 hA3 hA4 hh4 hm4 hmg fz hne4
      go_upto_region 15 with fail
      rw [← hW4]
      clear hW4 f12 fz12 hst3
      have hBd : Below W4.heap.size W4 W4.drew := (Below.refl _ _).drew
      have hA5 := HA4.out.1.below hBd
      have hh5 := (hBd.block _ (heap_lt HA4.out.2.1)).trans HA4.out.2.1
      have hldS := (ld_side hA5.s0 rfl).1
      have hldU := (ld_unit hh5 rfl).1
      have hbw : w.heap.size + 1 + 1 < W2.heap.size := by exact HNE.out
      obtain ⟨Y1, Y2, V1, V2, ⟨hst1, hst2, hst3, hst4, hst5, hst6⟩, HY, HBY⟩ := hA5.back2 hh5 rfl (uC_one _ _ _ _ _ _ _ _) hbw
      clear hA5 hh5 hBd hbw
      go_wp2_with fail
      go_region
      all_goals
        go_wp2
        refine bodyPost_ret (v := .tuple #[.agg (sideC (.slice (some ⟨g, off, none⟩) n cap) p s.first m o (tlC ({ t with force := t.force, pl := t.pl + 1 } : Cs))), .agg (uC t.last (((s.first : Int) + t.pl) % 128) true true 2 (.slice vo x.length vc))]) (by first | (simp [results, Try.results33, asAddr, HY.out.1.1, HY.out.1.2]; done) | (simp [results, Try.results33, asAddr, HY.out.2.1, HY.out.2.2]; done)) rfl ?_
        rw [HAN.out]
        first
        | (exact ⟨_, rfl, HMsg.at_ (HA4.out.2.2.below ((Below.refl _ _).drew)) (fun g cur _ hg => HBY.out.1.2 g cur hg), HBY.out.1.1⟩)
        | (exact ⟨_, rfl, HMsg.at_ (HA4.out.2.2.below ((Below.refl _ _).drew)) (fun g cur _ hg => HBY.out.2.2 g cur hg), HBY.out.2.1⟩)
    · have hge : p ≤ t.pl := by omega
      have q1 : decide ((t.pl : Int) < 0) = false := decide_eq_false (by omega)
      have dz12 := dz 12
      have hA9 := HC.out.set (t' := ({ t with force := t.force, pl := 0 } : Cs)) (gb_set (k := 12) (.int .i64 0)) (side_setp HC.out.s0 0 0 rfl)
      have dz13 := dz 13
      have hA5 := hA9.set (t' := ({ t with force := false, pl := 0 } : Cs)) (gb_set (k := 13) (.bool false)) (side_setf hA9.s0 false)
      have g13 := (hA9.cells).2.2.1
      have gz13 := (hA9.cells).2.2.2.2 13
      obtain ⟨W6, hW6⟩ : ∃ W6, W6 = (W.setCell ⟨w.heap.size, 12, none⟩ (.int .i64 0)).setCell ⟨w.heap.size, 13, none⟩ (.bool false) := ⟨_, rfl⟩
      rw [← hW6] at hA5
      have hA6 := hA5
      clear hA5 hA9
      go_upto_region 11 with fail
      rw [← hW6]
      clear hW6 d0 d1 d12 d13 dld dz dz12 dz13 g13 gz13
      obtain ⟨⟨e0, e1⟩, e12, e13, eld, ez⟩ := hA6.cells
      have e12' : W6.cell? ⟨w.heap.size, 12, none⟩ = some (.int .i64 0) := e12
      simp only at e13
      have HA6 : Hid (AG w W6 (.slice lo n cap) p s.first m o ({ t with force := false, pl := 0 } : Cs)) := hA6
      clear hA6 e12 ez
      obtain ⟨g, off, vo, vc, hlo, hcv, hmv⟩ := (HR.out _ HA6.out.low).get 0 (by rw [List.length_append, HPQ.out]; omega)
      subst hlo
      have hmg := rmessage_any g off n cap 0 vo _ vc p s.first m o (tlC ({ t with force := false, pl := 0 } : Cs)) W6 hl0 hl1 (by omega) (by omega) (by omega) (by omega) hcv
      rw [show (tlC ({ t with force := false, pl := 0 } : Cs)).bib = true from rfl, show (tlC ({ t with force := false, pl := 0 } : Cs)).fib = true from rfl, show (tlC ({ t with force := false, pl := 0 } : Cs)).last = t.last from rfl] at hmg
      have hel : (s.sent ++ s.next)[0]'(by rw [List.length_append, HPQ.out]; omega) = s.sent[0]'(by rw [HPQ.out]; omega) := List.getElem_append_left (by rw [HPQ.out]; omega)
      simp only [hel] at hmg hmv
      obtain ⟨x, hx⟩ : ∃ x, x = s.sent[0]'(by rw [HPQ.out]; omega) := ⟨_, rfl⟩
      rw [← hx] at hmg hmv
      have HX : Hid (s.sent[0]? = some x) := by rw [hx]; exact List.getElem?_eq_getElem _
      have HMV : Hid (HMsg W6 B (.slice vo x.length vc) x) := hmv
      clear hel hx hcv hmv
      rw [show ((s.first : Int) + ((0 : Nat) : Int)) % 128 = (s.first : Int) % 128 by rw [Int.natCast_zero, Int.add_zero], show ((0 : Nat) : Int) = 0 from rfl] at hmg
      have HAN : Hid (t1.again s = (({ t with force := false, pl := 1 } : Cs), (s.first : Int) % 128, some x)) := by
        show _ = _
        rw [HT1.out, HF.out]
        unfold Cs.again
        simp only
        rw [HPQ.out, if_neg hp, if_pos hpos, HX.out, HMU1.out ({ t with force := t.force } : Cs) rfl rfl, ← HM.out]
      go_wp2_with fail
      refine hmg.mono ?_
      rintro e W2 ⟨rfl, hB2⟩
      obtain ⟨W3, hst3, hB3, hh3⟩ := kept_unit W2 t.last ((s.first : Int) % 128) true true 2 vo x.length vc
      have hB23 := hB2.trans (below_le hB3 hB2.size)
      have hA3 := HA6.out.below hB23
      obtain ⟨-, f12, -, -, fz⟩ := hA3.cells
      have fz12 := fz 12
      have hA4 := hA3.set (t' := ({ t with force := false, pl := 1 } : Cs)) (gb_set (k := 12) (.int .i64 1)) (side_setp hA3.s0 (1) 1 (by omega))
      have hne4 : W2.heap.size ≠ w.heap.size := by have := heap_lt HA6.out.s0; have := hB2.size; omega
      have hh4 := ((gb_set (w := W3) (b := w.heap.size) (k := 12) (.int .i64 1)).block W2.heap.size (heap_lt hh3) (fun e => hne4 (by simpa using e))).trans hh3
      have hm4 := (HMV.out.below hB23).off (gb_set (b := w.heap.size) (k := 12) (.int .i64 1)) hA3.s0 (by decide)
      obtain ⟨W4, hW4⟩ : ∃ W4, W4 = W3.setCell ⟨w.heap.size, 12, none⟩ (.int .i64 1) := ⟨_, rfl⟩
      rw [← hW4] at hA4 hh4 hm4
      have HA4 : Hid (AG w W4 (.slice (some ⟨g, off, none⟩) n cap) p s.first m o ({ t with force := false, pl := 1 } : Cs) ∧ W4.heap[W2.heap.size]? = some (.cells (uC t.last ((s.first : Int) % 128) true true 2 (.slice vo x.length vc)) 32 (0, 0)) ∧ HMsg W4 B (.slice vo x.length vc) x) := ⟨hA4, hh4, hm4⟩
      have HNE : Hid (w.heap.size + 1 + 1 < W2.heap.size) := by have := heap_lt HA6.out.s2; have := hB2.size; show _ < _; omega
      clear hB2 hB3 hB23 hh3 hA3 hA4 hh4 hm4 hmg fz hne4
      go_upto_region 15 with fail
      rw [← hW4]
      clear hW4 f12 fz12 hst3
      have hBd : Below W4.heap.size W4 W4.drew := (Below.refl _ _).drew
      have hA5 := HA4.out.1.below hBd
      have hh5 := (hBd.block _ (heap_lt HA4.out.2.1)).trans HA4.out.2.1
      have hldS := (ld_side hA5.s0 rfl).1
      have hldU := (ld_unit hh5 rfl).1
      have hbw : w.heap.size + 1 + 1 < W2.heap.size := by exact HNE.out
      obtain ⟨Y1, Y2, V1, V2, ⟨hst1, hst2, hst3, hst4, hst5, hst6⟩, HY, HBY⟩ := hA5.back2 hh5 rfl (uC_one _ _ _ _ _ _ _ _) hbw
      clear hA5 hh5 hBd hbw
      go_wp2_with fail
      go_region
      all_goals
        go_wp2
        refine bodyPost_ret (v := .tuple #[.agg (sideC (.slice (some ⟨g, off, none⟩) n cap) p s.first m o (tlC ({ t with force := false, pl := 1 } : Cs))), .agg (uC t.last ((s.first : Int) % 128) true true 2 (.slice vo x.length vc))]) (by first | (simp [results, Try.results33, asAddr, HY.out.1.1, HY.out.1.2]; done) | (simp [results, Try.results33, asAddr, HY.out.2.1, HY.out.2.2]; done)) rfl ?_
        rw [HAN.out]
        first
        | (exact ⟨_, rfl, HMsg.at_ (HA4.out.2.2.below ((Below.refl _ _).drew)) (fun g cur _ hg => HBY.out.1.2 g cur hg), HBY.out.1.1⟩)
        | (exact ⟨_, rfl, HMsg.at_ (HA4.out.2.2.below ((Below.refl _ _).drew)) (fun g cur _ hg => HBY.out.2.2 g cur hg), HBY.out.2.1⟩)


end Go.Proofs.Ytmnhciildlmjcaa.Tape
