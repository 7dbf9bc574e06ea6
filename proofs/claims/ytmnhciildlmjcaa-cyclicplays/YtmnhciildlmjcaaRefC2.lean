/- The reference's Side of a cyclic way: the contracts of its message and fits. -/
import Derived.Test.YtmnhciildlmjcaaRefC1
namespace Go.Proofs.Ytmnhciildlmjcaa.Tape
open Go.ChangeShapes Go.WideShapes Go.ChangeAt Go.RowKit
set_option linter.unusedVariables false

/-- Behind W, with a new block of a unit's zero values. -/
structure UZ (W Y : World) (b : Nat) : Prop where
  low : Below W.heap.size W Y
  le : W.heap.size ≤ b
  blk : Y.heap[b]? = some (.cells zeroU 32 (0, 0))
theorem UZ.alloc {W Y : World} (h : Below W.heap.size W Y) : UZ W (Y.alloc (.cells #[.int .u8 0, .int .u8 0, .bool false, .bool false, .int .u8 0, .int .u8 0, .bool false, .slice none 0 0] 32)) Y.heap.size :=
  ⟨h.alloc h.size _, h.size, heap_alloc_new Y _⟩
theorem UZ.below {W Y Y' : World} {b : Nat} (h : UZ W Y b) (hb : Below Y.heap.size Y Y') : UZ W Y' b := ⟨h.low.trans (below_le hb h.low.size), h.le, (hb.block _ (heap_lt h.blk)).trans h.blk⟩
theorem UZ.store {W Y : World} {b : Nat} (h : UZ W Y b) (x f : Int) (bib fib : Bool) (k : Int) (ao : Option Addr) (n c : Nat) : ∃ Y', (stU (.pointer (some ⟨b, 0, none⟩)) (.agg (uC x f bib fib k (.slice ao n c)))).run Try.prog Y = .ok () Y' ∧ Hid (Y'.heap[b]? = some (.cells (uC x f bib fib k (.slice ao n c)) 32 (0, 0)) ∧ W.heap.size ≤ b) ∧ Below W.heap.size W Y' :=
  ⟨_, st_unit h.blk rfl rfl (uC_one _ _ _ _ _ _ _ _), ⟨putU_heap h.blk rfl, h.le⟩, gb_below (putU_gb _ _ _) h.low h.le h.low.size⟩

/-- A unit of which kind and message are set. -/
theorem unit_put {W : World} {b : Nat} {x f : Int} {bib fib : Bool} (h : W.heap[b]? = some (.cells (uC x f bib fib 0 (.slice none 0 0)) 32 (0, 0))) (v : Value) : ((W.setCell ⟨b, 4, none⟩ (.int .u8 2)).setCell ⟨b, 7, none⟩ v).heap[b]? = some (.cells (uC x f bib fib 2 v) 32 (0, 0)) :=
  row_set (cs := [.int .u8 x, .int .u8 f, .bool bib, .bool fib, .int .u8 2, .int .u8 0, .bool false, .slice none 0 0]) (row_set (cs := [.int .u8 x, .int .u8 f, .bool bib, .bool fib, .int .u8 0, .int .u8 0, .bool false, .slice none 0 0]) h 4 (.int .u8 2)) 7 v

attribute [local go_sem ↓] ldS_def stS_def ldU_def stU_def

set_option maxRecDepth 100000 in
set_option maxHeartbeats 1000000 in
theorem rmessage_any (g off n cap k : Nat) (vo : Option Addr) (vn vc : Nat) (a f m o : Int) (t : Tail) (w : World) (h0 : 0 ≤ t.last) (h1 : t.last < 256) (h2 : 0 ≤ f) (h3 : f < 128) (hk : k < n) (hk2 : k ≤ 1000) (hv : w.cell? ⟨g, off + k, none⟩ = some (.slice vo vn vc)) :
    Calls Try.prog 34 #[.agg (sideC (.slice (some ⟨g, off, none⟩) n cap) a f m o t), .int .i64 k] w fun e w' => e = .returned (.agg (uC t.last ((f + k) % 128) t.bib t.fib 2 (.slice vo vn vc))) ∧ Below w.heap.size w w' := by
  obtain ⟨W, hW, hB, hh, hu⟩ := side_unit w (.slice (some ⟨g, off, none⟩) n cap) a f m o t
  obtain ⟨nn, hnn⟩ : ∃ nn, nn = (f + k) % 128 := ⟨_, rfl⟩
  have hnn2 : 0 ≤ nn ∧ nn < 256 := by omega
  have hnum := fun Y (hY : Below W.heap.size W Y) => rnumber_any (.slice (some ⟨g, off, none⟩) n cap) a f m o t k Y h2 h3 (by omega) (by omega)
  have hhd := fun Y (hY : Below W.heap.size W Y) => rhead_any (.slice (some ⟨g, off, none⟩) n cap) a f m o t nn Y h0 h1 hnn2.1 hnn2.2
  rw [← hnn] at hnum ⊢
  obtain ⟨cs, hcs⟩ : ∃ cs, cs = sideC (.slice (some ⟨g, off, none⟩) n cap) a f m o t := ⟨_, rfl⟩
  have HS : Hid (∀ Y : World, Below W.heap.size W Y → (ldS (.pointer (some ⟨w.heap.size, 0, none⟩))).run Try.prog Y = .ok (.agg cs) Y) := fun Y hY => by
    have := (hY.block _ (heap_lt hh)).trans hh
    rw [hcs]
    exact (ld_side this rfl).1
  rw [← hcs] at hnum hhd hW ⊢
  have HH : Hid (W.heap[w.heap.size]? = some (.cells (sideC (.slice (some ⟨g, off, none⟩) n cap) a f m o t) 28 (0, 0)) ∧ W.heap[w.heap.size + 1]? = some (.cells zeroU 32 (0, 0)) ∧ Below w.heap.size w W ∧ W.cell? ⟨g, off + k, none⟩ = some (.slice vo vn vc)) := ⟨hh, hu, hB, (hB.cell (World.block_lt_of_cell? w _ hv)).trans hv⟩
  have HN : Hid _ := hnum
  have HD : Hid _ := hhd
  clear hh hu hnn hcs hnum hhd hv hB
  go_enter Try.func34, Try.ntmps34
  go_upto_region 1 with fail
  rw [← hW]
  clear hW
  go_cut [5] from 6 (fun v Y => ∃ b, v = .pointer (some ⟨b, 0, none⟩) ∧ Hid (Y.heap[b]? = some (.cells (uC t.last nn t.bib t.fib 0 (.slice none 0 0)) 32 (0, 0)) ∧ W.heap.size ≤ b) ∧ Below W.heap.size W Y)
  case first =>
    have hBD : Below W.heap.size W W.drew := (Below.refl _ _).drew
    have HZA : UZ W (W.alloc (.cells #[.int .u8 0, .int .u8 0, .bool false, .bool false, .int .u8 0, .int .u8 0, .bool false, .slice none 0 0] 32)).drew W.heap.size := (UZ.alloc (Below.refl _ _)).below (Below.refl _ _).drew
    have hBA := HZA.low
    have HZA' : Hid _ := HZA
    clear HZA
    go_wp2_with fail
    go_region_held (fun Y => (ldS (.pointer (some ⟨w.heap.size, 0, none⟩))).run Try.prog Y = .ok (.agg cs) Y) ((refine HS.out _ ?_; assumption))
      (first
      | (go_at_call 46; have hB3A := hB3A; refine (HD.out w3A hB3A).mono ?_; rintro e w4 ⟨rfl, hB4'⟩; have HZ4 := HZ3A.below hB4'; obtain ⟨w5, hst, HE5, hB5⟩ := HZ4.store t.last nn t.bib t.fib 0 none 0 0; have hB4 := HZ4.low; clear hB4' HZ4)
      | (go_at_call 46; have hB3 := hB3; refine (HD.out w3 hB3).mono ?_; rintro e w4 ⟨rfl, hB4'⟩; have hB4 := hB3.trans (below_le hB4' hB3.size); have HZ4 := UZ.alloc hB4; obtain ⟨w5, hst, HE5, hB5⟩ := HZ4.store t.last nn t.bib t.fib 0 none 0 0; have hB4Z := HZ4.low; clear hB4' HZ4)
      | (go_at_call 46; have hB3Z := hB3Z; refine (HD.out _ hB3Z).mono ?_; rintro e w4 ⟨rfl, hB4'⟩; have HZ4 := HZ3.below hB4'; obtain ⟨w5, hst, HE5, hB5⟩ := HZ4.store t.last nn t.bib t.fib 0 none 0 0; have hB4 := HZ4.low; clear hB4' HZ4)
      | (go_at_call 47; refine (HN.out W.drew hBD).mono ?_; rintro e w3 ⟨rfl, hB3'⟩; have hB3 := hBD.trans (below_le hB3' hBD.size); have HZ3 := UZ.alloc hB3; have hB3Z := HZ3.low; clear hB3')
      | (go_at_call 47; refine (HN.out _ hBA).mono ?_; rintro e w3A ⟨rfl, hB3'⟩; have HZ3A := HZA'.out.below hB3'; have hB3A := HZ3A.low; clear hB3'))
    all_goals
      go_wp2
      go_meet
      case rel => exact ⟨_, rfl, HE5, hB5⟩
  case rest =>
    obtain ⟨b, rfl, HE, hB⟩ := hcut
    have hs := (HH.out.2.2.1).size
    have hu := (hB.block _ (heap_lt HH.out.2.1)).trans HH.out.2.1
    have hh := (hB.block _ (heap_lt HH.out.1)).trans HH.out.1
    have hv := (hB.cell (World.block_lt_of_cell? W _ HH.out.2.2.2)).trans HH.out.2.2.2
    have c0 := (side_cells hh).1.1
    obtain ⟨⟨-, -, -, -, d4, -, -, d7⟩, dz⟩ := unit_cells HE.out.1
    have z4 := dz 4
    have z7 := dz 7
    have hput := unit_put HE.out.1 (.slice vo vn vc)
    have hgb : wc.grownBy ((wc.setCell ⟨b, 4, none⟩ (.int .u8 2)).setCell ⟨b, 7, none⟩ (.slice vo vn vc)) (some b) := (gb_set _).trans (gb_set _)
    have hle := HE.out.2
    have hu' := (hgb.block _ (heap_lt hu) (fun e => by simp only [Option.some.injEq] at e; have := heap_lt HH.out.2.1; omega)).trans hu
    have hBt := gb_below hgb hB hle hB.size
    have hBw := HH.out.2.2.1.trans (below_le hBt hs)
    have hne : w.heap.size ≠ b := by have := heap_lt HH.out.1; omega
    have hne2 : g ≠ b := by have : g < W.heap.size := World.block_lt_of_cell? W _ HH.out.2.2.2; omega
    have c0' : (wc.setCell ⟨b, 4, none⟩ (.int .u8 2)).cell? ⟨w.heap.size, 0, none⟩ = some (.slice (some ⟨g, off, none⟩) n cap) := by
      rw [← c0]
      exact World.cell?_of_block (a := ⟨w.heap.size, 0, none⟩) (Below.heap_setCell _ _ _ _ hne)
    have hv' : (wc.setCell ⟨b, 4, none⟩ (.int .u8 2)).cell? ⟨g, off + k, none⟩ = some (.slice vo vn vc) := by
      rw [← hv]
      exact World.cell?_of_block (a := ⟨g, off + k, none⟩) (Below.heap_setCell _ _ _ _ hne2)
    have d7' : ((wc.setCell ⟨b, 4, none⟩ (.int .u8 2)).cell? ⟨b, 7, none⟩) = some (.slice none 0 0) := by
      have := row_set (cs := [.int .u8 t.last, .int .u8 nn, .bool t.bib, .bool t.fib, .int .u8 0, .int .u8 0, .bool false, .slice none 0 0]) HE.out.1 4 (.int .u8 2)
      rw [Lib.cell_of_heap this]
      rfl
    have hldu := (ld_unit hput rfl).1
    obtain ⟨w6, hst6, HL6, hB6, -⟩ := unit_back (ds := uC t.last nn t.bib t.fib 2 (.slice vo vn vc)) hu' rfl rfl (uC_one _ _ _ _ _ _ _ _) hBw (Nat.le_succ _) hBw.size
    have HB6 : Hid _ := hB6
    clear hBt hBw hgb hu' hput hu hh hB hB6 hle dz
    go_wp2_with fail
    refine bodyPost_ret (v := .agg (uC t.last nn t.bib t.fib 2 (.slice vo vn vc))) (by simp [results, Try.results34, asAddr, HL6.out]) rfl ?_
    exact ⟨rfl, HB6.out⟩
end Go.Proofs.Ytmnhciildlmjcaa.Tape
