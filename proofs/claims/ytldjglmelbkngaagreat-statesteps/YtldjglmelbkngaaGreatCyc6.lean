/- The contract of a Cyclic's Take. -/
import Derived.Test.YtldjglmelbkngaaGreatCyc5
namespace Go.Proofs.YtldjglmelbkngaaGreat.Tape
open Go.ChangeShapes Go.WideShapes Go.ChangeAt Go.RowKit
set_option linter.unusedVariables false

set_option maxRecDepth 100000 in
set_option maxHeartbeats 400000 in
theorem clone_nil (w : World) : Calls Tryz.prog 109 #[.slice none 0 0] w fun e w' => e = .returned (.slice none 0 0) ∧ w' = w := by
  have hq := run_eql_slice_nil (P := Tryz.prog) w 30 5 none 0 0 Tryz.underlying30
  go_enter Tryz.func109, Tryz.ntmps109
  go_wp2
  go_ret
  exact ⟨rfl, rfl⟩

set_option maxRecDepth 100000 in
set_option maxHeartbeats 400000 in
theorem clone_some (ad : Addr) (n cap : Nat) (xs : List Int) (w : World) (hn : xs.length = n) (hl : n ≤ 1000) (h : Reads w (some ad) (xs.map (.int .u8))) :
    Calls Tryz.prog 109 #[.slice (some ad) n cap] w fun e w' => ∃ v, e = .returned v ∧ w'.ownsRow w.heap.size 5 1 v n (xs.map (.int .u8)) ∧ Below w.heap.size w w' := by
  have hb1 : Below w.heap.size w (w.alloc (.cells #[] 5)) := (Below.refl _ _).alloc (Nat.le_refl _) _
  have hown := owns_new (w := w) (base := w.heap.size) (Nat.le_refl _) [] 0 rfl (by unfold maxLen; omega)
  have h1 := h.below (Nat.le_refl _) hb1
  have hq := run_eql_slice_nil (P := Tryz.prog) w 30 5 (some ad) n cap Tryz.underlying30
  go_enter Tryz.func109, Tryz.ntmps109
  go_wp2_with (at_builtin; refine append_reads rfl _ _ rfl w.heap.size _ 0 [] rfl hown (some ad) n cap xs rfl hn h1 (fun h => by cases h) (by omega) (by simp) ?_; intro v' w2 hown2 hb2)
  rw [Nat.zero_add, List.nil_append] at hown2
  go_wp2
  go_ret
  exact ⟨_, rfl, hown2, hb1.trans hb2⟩

/-- bytes.Clone of octets, nil or not. -/
theorem clone_reads (ao : Option Addr) (n cap : Nat) (xs : List Int) (w : World) (hn : xs.length = n) (hl : n ≤ 1000) (hc : ao = none → cap = 0) (h : Reads w ao (xs.map (.int .u8))) :
    Calls Tryz.prog 109 #[.slice ao n cap] w fun e w' => ∃ vo vc, e = .returned (.slice vo n vc) ∧ Reads w' vo (xs.map (.int .u8)) ∧ Below w.heap.size w w' := by
  cases ao with
  | none =>
    have h0 : xs = [] := by simpa using h.none_nil
    subst h0
    obtain rfl : 0 = n := hn
    obtain rfl : cap = 0 := hc rfl
    refine (clone_nil w).mono ?_
    rintro e w' ⟨rfl, rfl⟩
    exact ⟨none, 0, rfl, Reads.nil _ _, Below.refl _ _⟩
  | some ad =>
    refine (clone_some ad n cap xs w hn hl h).mono ?_
    rintro e w' ⟨v, rfl, hown, hB⟩
    obtain ⟨vo, vc, rfl, -, hr, -⟩ := owns_form hown
    exact ⟨vo, vc, rfl, hr, hB⟩

set_option maxRecDepth 100000 in
set_option maxHeartbeats 2000000 in
theorem take_no (p hb B : Nat) (T0 : Nat → Prop) (t : Cs) (s : Hs) (b f k st : Int) (ub uf wd : Bool) (x : Value) (w : World) (h : CycIn w p hb B T0 t s) (hn : k ≠ 2 ∨ f ≠ (t.last + 1) % 128) :
    Calls Tryz.prog 135 #[.pointer (some ⟨p, 0, none⟩), .agg #[.int .u8 b, .int .u8 f, .bool ub, .bool uf, .int .u8 k, .int .u8 st, .bool wd, x]] w fun e w' => e = .returned (.tuple #[.slice none 0 0, .bool false, .int .i64 0]) ∧ Below w.heap.size w w' := by
  obtain ⟨W, hW, hB, hh⟩ := box_unit w #[.int .u8 b, .int .u8 f, .bool ub, .bool uf, .int .u8 k, .int .u8 st, .bool wd, x]
  have hs := hB.size
  have hin := h.below hB
  have hlast := h.last
  obtain ⟨⟨-, -, -, c3, -⟩, -⟩ := cyc_cells hin.cells
  obtain ⟨⟨-, u1, -, -, u4, -⟩, -⟩ := unit_cells hh
  have hnx := fun q => Ring.next_any t.last hlast.1 hlast.2 (W.drewN q)
  have HB : Hid (Below w.heap.size w W) := hB
  obtain ⟨la, hla⟩ : ∃ la, la = t.last := ⟨_, rfl⟩
  obtain ⟨nx, hnx'⟩ : ∃ nx, nx = (t.last + 1) % 128 := ⟨_, rfl⟩
  rw [← hnx'] at hnx hn
  rw [← hla] at hnx c3
  clear h hin hh hB hla hnx' hlast
  by_cases hk : k = 2
  · have hf : f ≠ nx := hn.resolve_left (fun e => e hk)
    have e1 : (f == nx) = false := by rw [beq_eq_false_iff_ne]; exact hf
    have e2 : (f != nx) = true := by rw [bne, e1]; rfl
    subst hk
    clear hn
    go_enter Tryz.func135, Tryz.ntmps135
    go_upto_region 1 with fail
    rw [← hW]
    clear hW
    go_wp2_with fail
    go_quiet ((go_at_call 144; exact Calls.quiet_of_same (hnx _)))
    go_wp2
    go_ret3
    exact ⟨rfl, HB.out.trans (below_le (below_drewN (Below.refl _ _) nq) hs)⟩
  · have e1 : (k == 2) = false := by rw [beq_eq_false_iff_ne]; exact hk
    have e2 : (k != 2) = true := by rw [bne, e1]; rfl
    clear hn
    go_enter Tryz.func135, Tryz.ntmps135
    go_upto_region 1 with fail
    rw [← hW]
    clear hW
    go_wp2_with fail
    go_quiet ((go_at_call 144; exact Calls.quiet_of_same (hnx _)))
    go_wp2
    go_ret3
    exact ⟨rfl, HB.out.trans (below_le (below_drewN (Below.refl _ _) nq) hs)⟩

set_option maxRecDepth 100000 in
set_option maxHeartbeats 2000000 in
theorem take_yes (p hb B : Nat) (T0 : Nat → Prop) (t : Cs) (s : Hs) (b f st : Int) (ub uf wd : Bool) (ao : Option Addr) (m cap : Nat) (xs : List Int) (w : World) (h : CycIn w p hb B T0 t s) (hf : f = (t.last + 1) % 128) (hm : xs.length = m) (hl : m ≤ 1000) (hc : ao = none → cap = 0) (hrd : Reads w ao (xs.map (.int .u8)))
    (hap : ∀ ad, ao = some ad → 0 < m → ad.block ≠ p) :
    Calls Tryz.prog 135 #[.pointer (some ⟨p, 0, none⟩), .agg #[.int .u8 b, .int .u8 f, .bool ub, .bool uf, .int .u8 2, .int .u8 st, .bool wd, .slice ao m cap]] w fun e w' => ∃ vo vc, e = .returned (.tuple #[.slice vo m vc, .bool true, .int .i64 0]) ∧ Reads w' vo (xs.map (.int .u8)) ∧ CycIn w' p hb B T0 { t with last := f } s ∧ Foot (fun g => g = p ∨ T0 g) (fun g => g = p ∨ T0 g) w w' := by
  obtain ⟨W, hW, hB, hh⟩ := box_unit w #[.int .u8 b, .int .u8 f, .bool ub, .bool uf, .int .u8 2, .int .u8 st, .bool wd, .slice ao m cap]
  have hs := hB.size
  have hin := h.below hB
  have hlast := h.last
  have HR : Hid (∀ g, (g = p ∨ T0 g) → g ≠ w.heap.size) := fun g hg e => by
    have := (h.at_.lt g hg).2
    omega
  obtain ⟨⟨-, -, -, c3, -⟩, -⟩ := cyc_cells hin.cells
  obtain ⟨⟨-, u1, -, -, u4, -⟩, -⟩ := unit_cells hh
  have hnx := fun q => Ring.next_any t.last hlast.1 hlast.2 (W.drewN q)
  rw [← hf] at hnx
  have HB : Hid (Below w.heap.size w W) := hB
  have HIN : Hid (CycIn W p hb B T0 t s) := hin
  have HU : Hid (W.heap[w.heap.size]? = some (.cells #[.int .u8 b, .int .u8 f, .bool ub, .bool uf, .int .u8 2, .int .u8 st, .bool wd, .slice ao m cap] 32 (0, 0))) := hh
  have HRD : Hid (Reads W ao (xs.map (.int .u8))) := hrd.below (Nat.le_refl _) hB
  have HAP : Hid (∀ ad, ao = some ad → 0 < m → ad.block ≠ p) := hap
  have HM : Hid (xs.length = m) := hm
  have hf255 : 0 ≤ f ∧ f ≤ 255 := by omega
  obtain ⟨la, hla⟩ : ∃ la, la = t.last := ⟨_, rfl⟩
  rw [← hla] at hnx c3
  clear h hin hh hB hlast hla hf hrd hap hm
  go_enter Tryz.func135, Tryz.ntmps135
  go_upto_region 1 with fail
  rw [← hW]
  clear hW
  go_wp2_with fail
  go_quiet ((go_at_call 144; exact Calls.quiet_of_same (hnx _)))
  have hBq : Below W.heap.size W (W.drewN nq) := below_drewN (Below.refl _ _) nq
  have hin1 := HIN.out.below hBq
  have hu1 := (hBq.block _ (heap_lt HU.out)).trans HU.out
  have hrd1 := HRD.out.below (Nat.le_refl _) hBq
  have hF1 : Foot (fun g => g = p ∨ T0 g) (fun g => g = p ∨ T0 g) w (W.drewN nq) := Foot.of_below (HB.out.trans (below_le hBq hs))
  have v1 := (unit_cells hu1).1.2.1
  have z3 := (cyc_cells hin1.cells).2 3
  have d3 := (cyc_cells hin1.cells).1.2.2.2.1
  clear c3 u1 u4 hnx hBq
  generalize W.drewN nq = W1 at *
  obtain ⟨hin2, hF2⟩ := hin1.set (t' := { t with last := f }) (gb_set (k := 3) (.int .u8 f)) (row_set (cyc_row hin1.cells) 3 (.int .u8 f)) hf255 hin1.pl
  have hu2 := (hF2.block _ (heap_lt hu1) (fun e => HR.out _ e rfl)).trans hu1
  have hrd2 : Reads (W1.setCell ⟨p, 3, none⟩ (.int .u8 f)) ao (xs.map (.int .u8)) := fun i u hi => by
    obtain ⟨g, off, e, hc1⟩ := hrd1 i u hi
    refine ⟨g, off, e, ?_⟩
    have hlt : 0 < m := by
      have := (List.getElem?_eq_some_iff.1 hi).1
      rw [List.length_map] at this
      have := HM.out
      omega
    have hne := HAP.out _ e hlt
    have hk : (W1.setCell ⟨p, 3, none⟩ (.int .u8 f)).heap[g]? = W1.heap[g]? := (gb_set (w := W1) (b := p) (k := 3) (.int .u8 f)).block g (World.block_lt_of_cell? W1 _ hc1) (fun e2 => by simp only [Option.some.injEq] at e2; exact hne e2)
    exact (World.cell?_of_block (a := ⟨g, off + i, none⟩) hk).trans hc1
  have v7 := (unit_cells hu2).1.2.2.2.2.2.2.2
  obtain ⟨W2, hW2⟩ : ∃ W2, W2 = W1.setCell ⟨p, 3, none⟩ (.int .u8 f) := ⟨_, rfl⟩
  have hcl := clone_reads ao m cap xs W2 HM.out hl hc (by rw [hW2]; exact hrd2)
  have H2 : Hid (CycIn W2 p hb B T0 { t with last := f } s ∧ Foot (fun g => g = p ∨ T0 g) (fun g => g = p ∨ T0 g) w W2) := by
    rw [hW2]
    exact ⟨hin2, hF1.trans hF2⟩
  clear hin1 hin2 hu1 hu2 hF1 hF2 hrd1 hrd2
  go_wp2_with (go_at_call 109; rw [← hW2]; refine hcl.mono ?_; rintro e w3 ⟨vo, vc, rfl, hr3, hB3⟩)
  go_ret3
  exact ⟨vo, vc, rfl, hr3, H2.out.1.below hB3, H2.out.2.trans (Foot.of_below hB3)⟩
end Go.Proofs.YtldjglmelbkngaaGreat.Tape
