/- WayHolds' walk. -/
import Derived.Test.YtmjogdhfndnbaaaHolds1
import Derived.Test.YtmjogdhfndnbaaaMostW
import Derived.Test.YtmjogdhfndnbaaaWay5
import Derived.Deep.CutBlock
import Derived.Deep.RegionHeld3
import Derived.Deep.OwnRows
namespace Go.Proofs.Ytmjogdhfndnbaaa.Tape
open Go.ChangeShapes Go.WideShapes Go.ChangeAt Go.RowKit
set_option linter.unusedVariables false

/-- A setup that is stored whole, under a name of its own. -/
def stSt (p v : Value) : Sem Unit := Instr.storeAt 28 p v
theorem stSt_def (p v : Value) : Instr.storeAt 28 p v = stSt p v := rfl
theorem st_setup {w : World} {B : Nat} {cs ds : Array Value} (h : w.heap[B]? = some (.cells cs 28 (0, 0))) (hs : cs.size = 13) (hd : ds.size = 13) (h1 : ds.all (·.oneCell') = true) : (stSt (.pointer (some ⟨B, 0, none⟩)) (.agg ds)).run Try.prog w = .ok () (putU w B ds) := by
  refine run_storeAt_mid (P := Try.prog) w B 0 28 ds (fun j hj => ?_) (by rw [info28, hd]) h1
  have h' : w.heap[B]? = some (.cells cs.toList.toArray 28 (0, 0)) := by simpa using h
  refine ⟨?_, Lib.frozen_of_heap h' _⟩
  rw [Lib.cell_of_heap h', Nat.zero_add]
  simp only [List.getElem?_toArray]
  rw [List.getElem?_eq_getElem (by simp only [Array.length_toList]; omega)]
  rfl

attribute [local go_sem ↓] ldSt_def stSt_def ldU_def stU_def
attribute [local go_sem] m_hold c_hold m_next c_next m_ans c_ans n_ans

/-- A setup's cells. -/
def setC (c : Bool) (n1 n2 : Int) : Array Value := #[.bool c, .int .i64 n1, .int .i64 n2, .int .i64 16, .int .i64 600, .int .i64 600, .int .i64 12000, .int .i64 8000, .int .i64 4000, .int .i64 1200, .int .i64 100, .int .i64 4000, .int .i64 6000]

/-- What holds at the beginning of a round. -/
def HR (c : Bool) (w0 : World) (sb p hb : Nat) (wr : World) : Prop :=
  ∃ (x : Wt) (s : Hs) (T : Nat → Prop), Holds c x s ∧ WayIn wr p hb w0.heap.size T x s ∧ wr.heap[sb]? = some (.cells (setC c 3 40) 28 (0, 0)) ∧ Below w0.heap.size w0 wr

theorem put_round {c : Bool} {x : Wt} {s : Hs} {w wr : World} {sb p hb : Nat} {T1 : Nat → Prop} (HHO : Holds c x s) (HIN : WayIn wr p hb w.heap.size T1 x s) (HH : wr.heap[sb]? = some (.cells (setC c 3 40) 28 (0, 0))) (HB : Below w.heap.size w wr) (n : Nat) (hn : n ≤ 1000) (Y : World)
    (hY : Y = (wr.alloc (.cells (madeCells #[.int .u8 0] n) 5)).drew) : Calls Try.prog 10 #[.pointer (some ⟨hb, 0, none⟩), .slice (some ⟨wr.heap.size, 0, none⟩) n n] Y fun e w' => (∃ r, e = .returned (.int .i64 r)) ∧ HR c w sb p hb w' := by
  have hB1 : Below wr.heap.size wr Y := by rw [hY]; exact ((Below.refl _ _).alloc (Nat.le_refl _) _).drew
  have hr : Reads Y (some ⟨wr.heap.size, 0, none⟩) ((List.replicate n (0 : Int)).map (.int .u8)) := by
    intro i v hi
    refine ⟨_, _, rfl, ?_⟩
    have hi' : i < n ∧ v = .int .u8 0 := by
      obtain ⟨h1, h2⟩ := List.getElem?_eq_some_iff.1 hi
      simp only [List.length_map, List.length_replicate] at h1
      refine ⟨h1, ?_⟩
      rw [← h2]
      simp
    rw [hY]
    show (wr.alloc _).cell? _ = _
    have hh := heap_alloc_new wr (.cells (madeCells #[.int .u8 0] n) 5)
    unfold World.cell?
    rw [hh, hi'.2]
    simp [madeCells, hi'.1, Nat.mod_one]
  have hinY := HIN.below hB1
  have hBY := HB.trans (below_le hB1 HB.size)
  refine (put_any hb w.heap.size T1 s (some ⟨wr.heap.size, 0, none⟩) n n (List.replicate n 0) Y hinY.hold (by simp) (by omega) hr (by intro y hy; have := List.eq_of_mem_replicate hy; omega) hBY.size).mono ?_
  rintro e w' ⟨rfl, T', hat, hF⟩
  obtain ⟨hin', hF'⟩ := hinY.step hat hF
  have hhY := (hB1.block _ (heap_lt HH)).trans HH
  exact ⟨⟨_, rfl⟩, x, _, T', HHO.put _, hin', (hF'.block _ (heap_lt hhY) (hinY.notT hhY (by decide) (by decide) (by decide) (by decide))).trans hhY, hBY.trans (hinY.fbelow hF' (Nat.le_refl _) hBY.size)⟩

theorem HR.step {c : Bool} {x x' : Wt} {s s' : Hs} {w wr Y w' : World} {sb p hb : Nat} {T1 T' : Nat → Prop} (HIN : WayIn wr p hb w.heap.size T1 x s) (HH : wr.heap[sb]? = some (.cells (setC c 3 40) 28 (0, 0))) (HB : Below w.heap.size w wr) (hB1 : Below wr.heap.size wr Y)
    (hx : Holds c x' s') (hin' : WayIn w' p hb w.heap.size T' x' s') (hF' : Foot (fun g => g = p ∨ T1 g) (fun g => g = p ∨ T' g) Y w') : HR c w sb p hb w' := by
  have hinY := HIN.below hB1
  have hBY := HB.trans (below_le hB1 HB.size)
  have hhY := (hB1.block _ (heap_lt HH)).trans HH
  exact ⟨x', s', T', hx, hin', (hF'.block _ (heap_lt hhY) (hinY.notT hhY (by decide) (by decide) (by decide) (by decide))).trans hhY, hBY.trans (hinY.fbelow hF' (Nat.le_refl _) hBY.size)⟩

theorem next_round {c : Bool} {x : Wt} {s : Hs} {w wr : World} {sb p hb : Nat} {T1 : Nat → Prop} (HHO : Holds c x s) (HIN : WayIn wr p hb w.heap.size T1 x s) (HH : wr.heap[sb]? = some (.cells (setC c 3 40) 28 (0, 0))) (HB : Below w.heap.size w wr) :
    Calls Try.prog (fNext c) #[.pointer (some ⟨p, 0, none⟩)] wr fun e w' => (∃ u, e = .returned (.agg u)) ∧ HR c w sb p hb w' := by
  have h := wnext_any p hb _ _ _ _ _ HIN HB.size
  rw [HHO.cyc] at h
  refine h.mono ?_
  rintro e w' ⟨v, T', rfl, -, hin, hF⟩
  exact ⟨⟨_, rfl⟩, HR.step HIN HH HB (Below.refl _ _) HHO.nx hin hF⟩

theorem ans_round {c : Bool} {x : Wt} {s : Hs} {w wr : World} {sb p hb : Nat} {T1 : Nat → Prop} (HHO : Holds c x s) (HIN : WayIn wr p hb w.heap.size T1 x s) (HH : wr.heap[sb]? = some (.cells (setC c 3 40) 28 (0, 0))) (HB : Below w.heap.size w wr) (Y : World) (hY : Below wr.heap.size wr Y) :
    Calls Try.prog (fAns c) #[.pointer (some ⟨p, 0, none⟩), .agg #[.int .u8 s.first, .int .u8 0, .bool true, .bool true, .int .u8 0, .int .u8 0, .bool false, .slice none 0 0]] Y fun e w' => (∃ r1 r2, e = .returned (.tuple #[.int .i64 r1, .int .i64 r2])) ∧ HR c w sb p hb w' := by
  have hf := (HIN.hold.fine).first
  have h := wans_any p hb _ _ _ _ s.first 0 0 0 true true false (.slice none 0 0) _ (HIN.below hY) (by omega) (by omega)
  rw [HHO.cyc] at h
  refine h.mono ?_
  rintro e w' ⟨rfl, T', hin, hF⟩
  exact ⟨⟨_, _, rfl⟩, HR.step HIN HH HB hY (HHO.an _ _) hin hF⟩

set_option maxRecDepth 100000 in
set_option maxHeartbeats 6000000 in
theorem holds_walk (c : Bool) (a : Option Addr) (len cap : Nat) (xs : List Int) (w : World) (hlen : len = xs.length) (hrd : Reads w a (xs.map (.int .u8))) (hxs : ∀ x ∈ xs, 0 ≤ x ∧ x ≤ 255) (hl : len ≤ 200) :
    Calls Try.prog 5 #[.bool c, .slice a len cap] w fun e w' => e = .returned (.bool true) ∧ Below w.heap.size w w' := by
  have HXS : Hid (∀ x ∈ xs, 0 ≤ x ∧ x ≤ 255) := hxs
  have HRD : Hid (Reads w a (xs.map (.int .u8))) := hrd
  have HLEN : Hid (len = xs.length) := hlen
  clear hxs hrd hlen
  go_enter Try.func5, Try.ntmps5
  go_wp2_with fail
  refine (awake13_any _).mono ?_
  rintro e w1 ⟨rfl, hB1⟩
  go_wp2_with fail
  refine (usual_any c w1).mono ?_
  rintro e w2 ⟨rfl, hB2⟩
  have hB02 := hB1.trans (below_le hB2 hB1.size)
  -- the setup's block
  obtain ⟨W2, hW2⟩ : ∃ W2, W2 = w2.alloc (.cells #[.bool false, .int .i64 0, .int .i64 0, .int .i64 0, .int .i64 0, .int .i64 0, .int .i64 0, .int .i64 0, .int .i64 0, .int .i64 0, .int .i64 0, .int .i64 0, .int .i64 0] 28) := ⟨_, rfl⟩
  have hBW2 : Below w2.heap.size w2 W2 := by rw [hW2]; exact (Below.refl _ _).alloc (Nat.le_refl _) _
  have hh2 : W2.heap[w2.heap.size]? = some (.cells #[.bool false, .int .i64 0, .int .i64 0, .int .i64 0, .int .i64 0, .int .i64 0, .int .i64 0, .int .i64 0, .int .i64 0, .int .i64 0, .int .i64 0, .int .i64 0, .int .i64 0] 28 (0, 0)) := by rw [hW2]; exact heap_alloc_new w2 _
  have hst := st_setup (ds := setC c 8 300) hh2 rfl rfl (by simp [setC, Value.oneCell'])
  have hh3 := putU_heap (ds := setC c 8 300) hh2 rfl
  have hg3 := putU_gb W2 w2.heap.size (setC c 8 300)
  obtain ⟨W3, hW3⟩ : ∃ W3, W3 = putU W2 w2.heap.size (setC c 8 300) := ⟨_, rfl⟩
  rw [← hW3] at hst hh3 hg3
  have hB03 := gb_below hg3 (hB02.trans (below_le hBW2 hB02.size)) hB02.size (hB02.trans (below_le hBW2 hB02.size)).size
  obtain ⟨W4, hW4⟩ : ∃ W4, W4 = (W3.setCell ⟨w2.heap.size, 1, none⟩ (.int .i64 3)).setCell ⟨w2.heap.size, 2, none⟩ (.int .i64 40) := ⟨_, rfl⟩
  have hh3' : W3.heap[w2.heap.size]? = some (.cells (setC c 8 300).toList.toArray 28 (0, 0)) := by simpa using hh3
  have hh4 : W4.heap[w2.heap.size]? = some (.cells (setC c 3 40) 28 (0, 0)) := by
    rw [hW4]
    exact row_set (row_set hh3' 1 (.int .i64 3)) 2 (.int .i64 40)
  have hg4 : W3.grownBy W4 (some w2.heap.size) := by
    rw [hW4]
    exact (gb_set _).trans (gb_set _)
  have hB04 := gb_below hg4 hB03 hB02.size hB03.size
  have c1 : W3.cell? ⟨w2.heap.size, 1, none⟩ = some (.int .i64 8) := by simp [World.cell?, hh3, setC]
  have c2 : W3.cell? ⟨w2.heap.size, 2, none⟩ = some (.int .i64 300) := by simp [World.cell?, hh3, setC]
  have f1 : W3.frozen? ⟨w2.heap.size, 1, none⟩ = false := Lib.frozen_of_heap hh3' _
  have f2 : (W3.setCell ⟨w2.heap.size, 1, none⟩ (.int .i64 3)).frozen? ⟨w2.heap.size, 2, none⟩ = false := Lib.frozen_of_heap (row_set hh3' 1 (.int .i64 3)) _
  have hld4 := ld_setup hh4 rfl
  obtain ⟨sb, hsb⟩ : ∃ sb, sb = w2.heap.size := ⟨_, rfl⟩
  have HH4 : Hid (W4.heap[w2.heap.size]? = some (.cells (setC c 3 40) 28 (0, 0))) := hh4
  have HB4 : Hid (Below w.heap.size w W4) := hB04
  unfold setC at hst hld4
  rw [hW2] at hst
  clear hB1 hB2 hB02 hBW2 hh2 hW2 hh3 hg3 hB03 hh3' hh4 hg4 hB04 hW3
  go_upto_region 4 with fail
  go_upto_region 6 with fail
  rw [← hW4]
  clear hW4 hst c1 c2 f1 f2
  have hnw := wnew_any c 3 40 16 600 600 12000 8000 4000 1200 100 4000 6000 w.heap.size W4 (by omega) (by omega) (by omega) (by omega) HB4.out.size
  unfold setV at hnw
  go_wp2_with fail
  refine hnw.mono ?_
  rintro e w5 ⟨p, hb, T, rfl, hin, -, hB5⟩
  have hh5 := (hB5.block _ (heap_lt HH4.out)).trans HH4.out
  have hB05 := HB4.out.trans (below_le hB5 HB4.out.size)
  have hld5 := ld_setup hh5 rfl
  have hmo := most_any c 3 40 16 600 600 12000 8000 4000 1200 100 4000 6000 w5
  unfold setV at hmo
  unfold setC at hld5
  have HIN : Hid (WayIn w5 p hb w.heap.size T (wt0 c 3 40) ⟨16, 600, 0, [], []⟩) := hin
  have HH5 : Hid (w5.heap[w2.heap.size]? = some (.cells (setC c 3 40) 28 (0, 0))) := hh5
  have HB5 : Hid (Below w.heap.size w w5) := hB05
  clear hnw hB5 hh5 hB05 hld4 hin
  go_wp2_with fail
  refine hmo.mono ?_
  rintro e w6 ⟨rfl, hB6⟩
  have hHR : HR c w w2.heap.size p hb w6 := by
    refine ⟨wt0 c 3 40, _, T, ?_, HIN.out.below hB6, (hB6.block _ (heap_lt HH5.out)).trans HH5.out, HB5.out.trans (below_le hB6 HB5.out.size)⟩
    cases c
    · exact ⟨rfl, rfl, rfl, trivial⟩
    · exact ⟨rfl, rfl, rfl, rfl, rfl, by simp, by simp⟩
  have HHR : Hid (HR c w w2.heap.size p hb w6) := hHR
  rw [← hsb] at HHR
  rw [← hsb, wayV_eq]
  obtain ⟨mm, hmm⟩ : ∃ mm, mm = mstN c 3 16 := ⟨_, rfl⟩
  obtain ⟨oo, hoo⟩ : ∃ oo, oo = mstO c 40 600 := ⟨_, rfl⟩
  rw [← hmm, ← hoo]
  have HMM : Hid (mm = mstN c 3 16 ∧ oo = mstO c 40 600) := ⟨hmm, hoo⟩
  clear hmo hld5 hB6 hHR hsb hmm hoo
  go_wp2_with fail
  go_loopw [9] (fun i wr => ∃ (q : Nat), q ≤ len ∧ i = .int .i64 q ∧ HR c w sb p hb wr) (fun i _ => len - (intOf i).toNat)
  case atStart => exact ⟨0, by omega, rfl, HHR.out⟩
  case round =>
    clear HHR
    obtain ⟨q, hq, rfl, x, s, T1, hho, hin, hh, hB⟩ := hrel
    by_cases hlt : q < len
    · obtain ⟨ga, oa, rfl, hcz⟩ := (HRD.out.below (Nat.le_refl _) hB).byte q (by have := HLEN.out; omega)
      obtain ⟨z, hz⟩ : ∃ z, z = xs[q]'(by have := HLEN.out; omega) := ⟨_, rfl⟩
      rw [← hz] at hcz
      have hz2 := HXS.out z (by rw [hz]; exact List.getElem_mem _)
      have HK : Hid (∀ Y, HR c w sb p hb Y → Y.cell? ⟨ga, oa + q, none⟩ = some (.int .u8 z)) := fun Y hY => by
        obtain ⟨-, -, -, -, -, -, hBY⟩ := hY
        obtain ⟨g', o', e', hc'⟩ := (HRD.out.below (Nat.le_refl _) hBY).byte q (by have := HLEN.out; omega)
        cases e'
        rw [hc', hz]
      clear hz
      have h4 : z % 4 = 0 ∨ z % 4 = 1 ∨ z % 4 = 2 ∨ z % 4 = 3 := by omega
      have HHO : Hid (Holds c x s) := hho
      have HIN : Hid (WayIn wr p hb w.heap.size T1 x s) := hin
      have HH : Hid (wr.heap[sb]? = some (.cells (setC c 3 40) 28 (0, 0))) := hh
      have HB : Hid (Below w.heap.size w wr) := hB
      clear hho hin hh hB
      go_upto_block 2 with fail
      go_cut [] from 39 to 66 (fun W => HR c w sb p hb W)
      case first =>
        rcases h4 with h4 | h4 | h4 | h4
        · obtain ⟨d, hd⟩ : ∃ d : Nat, z.tdiv 4 = d := ⟨(z.tdiv 4).toNat, by rw [Int.tdiv_eq_ediv_of_nonneg hz2.1]; omega⟩
          have hd63 : d ≤ 63 := by rw [Int.tdiv_eq_ediv_of_nonneg hz2.1] at hd; omega
          obtain ⟨n, hn⟩ : ∃ n, n = 3 + d := ⟨_, rfl⟩
          have k2 : IntKind.u8.wrap (d : Int) = d := by rw [IntKind.wrap_u8]; omega
          have k3 : IntKind.i64.wrap (d : Int) = d := wrap_small _ (by omega) (by omega)
          have k4 : IntKind.i64.wrap (3 + (d : Int)) = (n : Int) := by rw [hn]; rw [wrap_small _ (by omega) (by omega)]; omega
          have mk : ∀ W, (Instr.makeSlice 34 (.int .i64 (n : Int)) (.int .i64 (n : Int))).run Try.prog W = .ok (.slice (some ⟨W.heap.size, 0, none⟩) n n) (W.alloc (.cells (madeCells #[.int .u8 0] n) 5)) := fun W => run_make_row' 34 5 (.int .u8 0) 1 Try.underlying34 info5 rfl .i64 .i64 n (by omega) (by omega) W
          have hcz' : wr.drew.cell? ⟨ga, oa + q, none⟩ = some (.int .u8 z) := hcz
          have HHC : Hid (∀ Y, Below wr.heap.size wr Y → Calls Try.prog (fHold c) #[.pointer (some ⟨p, 0, none⟩)] Y fun e w' => e = .returned (.pointer (some ⟨hb, 0, none⟩)) ∧ w' = Y) := fun Y hY => by
            have := whold_any p hb _ _ _ _ _ (HIN.out.below hY)
            rw [HHO.out.cyc] at this
            exact this
          have HPUT : Hid (∀ Y, Y = (wr.alloc (.cells (madeCells #[.int .u8 0] n) 5)).drew → Calls Try.prog 10 #[.pointer (some ⟨hb, 0, none⟩), .slice (some ⟨wr.heap.size, 0, none⟩) n n] Y fun e w' => (∃ r, e = .returned (.int .i64 r)) ∧ HR c w sb p hb w') := fun Y hY => put_round HHO.out HIN.out HH.out HB.out n (by omega) Y hY
          have hcz2 : (wr.alloc (.cells (madeCells #[.int .u8 0] n) 5)).drew.cell? ⟨ga, oa + q, none⟩ = some (.int .u8 z) := by
            show (wr.alloc _).cell? _ = _
            rw [World.cell?_alloc_lt _ _ _ (World.block_lt_of_cell? wr _ hcz)]
            exact hcz
          clear hn
          go_upto_region 15 with fail
          go_region_held3 (fun Y => Y.cell? ⟨ga, oa + q, none⟩ = some (.int .u8 z)) (assumption)
            (first
              | (with_reducible change Calls Try.prog (fHold _) _ _ _; refine (HHC.out _ (by first | exact (Below.refl _ _).drew | exact ((Below.refl _ _).alloc (Nat.le_refl _) _).drew)).mono ?_; rintro e w4 ⟨rfl, hw4⟩; obtain rfl := hw4.symm; clear hw4)
              | (go_at_call 10; refine (HPUT.out _ rfl).mono ?_; rintro e w4 ⟨⟨r, rfl⟩, hr4⟩; have hS4 := HK.out _ hr4))
          all_goals
            go_wp2
            go_meet
            case rel => exact hr4
        · obtain ⟨d, hd⟩ : ∃ d : Nat, z.tdiv 4 = d := ⟨(z.tdiv 4).toNat, by rw [Int.tdiv_eq_ediv_of_nonneg hz2.1]; omega⟩
          have hd63 : d ≤ 63 := by rw [Int.tdiv_eq_ediv_of_nonneg hz2.1] at hd; omega
          obtain ⟨n, hn⟩ : ∃ n, n = 3 + d := ⟨_, rfl⟩
          have k2 : IntKind.u8.wrap (d : Int) = d := by rw [IntKind.wrap_u8]; omega
          have k3 : IntKind.i64.wrap (d : Int) = d := wrap_small _ (by omega) (by omega)
          have k4 : IntKind.i64.wrap (3 + (d : Int)) = (n : Int) := by rw [hn]; rw [wrap_small _ (by omega) (by omega)]; omega
          have mk : ∀ W, (Instr.makeSlice 34 (.int .i64 (n : Int)) (.int .i64 (n : Int))).run Try.prog W = .ok (.slice (some ⟨W.heap.size, 0, none⟩) n n) (W.alloc (.cells (madeCells #[.int .u8 0] n) 5)) := fun W => run_make_row' 34 5 (.int .u8 0) 1 Try.underlying34 info5 rfl .i64 .i64 n (by omega) (by omega) W
          have hcz' : wr.drew.cell? ⟨ga, oa + q, none⟩ = some (.int .u8 z) := hcz
          have HHC : Hid (∀ Y, Below wr.heap.size wr Y → Calls Try.prog (fHold c) #[.pointer (some ⟨p, 0, none⟩)] Y fun e w' => e = .returned (.pointer (some ⟨hb, 0, none⟩)) ∧ w' = Y) := fun Y hY => by
            have := whold_any p hb _ _ _ _ _ (HIN.out.below hY)
            rw [HHO.out.cyc] at this
            exact this
          have HPUT : Hid (∀ Y, Y = (wr.alloc (.cells (madeCells #[.int .u8 0] n) 5)).drew → Calls Try.prog 10 #[.pointer (some ⟨hb, 0, none⟩), .slice (some ⟨wr.heap.size, 0, none⟩) n n] Y fun e w' => (∃ r, e = .returned (.int .i64 r)) ∧ HR c w sb p hb w') := fun Y hY => put_round HHO.out HIN.out HH.out HB.out n (by omega) Y hY
          have hcz2 : (wr.alloc (.cells (madeCells #[.int .u8 0] n) 5)).drew.cell? ⟨ga, oa + q, none⟩ = some (.int .u8 z) := by
            show (wr.alloc _).cell? _ = _
            rw [World.cell?_alloc_lt _ _ _ (World.block_lt_of_cell? wr _ hcz)]
            exact hcz
          clear hn
          go_upto_region 15 with fail
          go_region_held3 (fun Y => Y.cell? ⟨ga, oa + q, none⟩ = some (.int .u8 z)) (assumption)
            (first
              | (with_reducible change Calls Try.prog (fHold _) _ _ _; refine (HHC.out _ (by first | exact (Below.refl _ _).drew | exact ((Below.refl _ _).alloc (Nat.le_refl _) _).drew)).mono ?_; rintro e w4 ⟨rfl, hw4⟩; obtain rfl := hw4.symm; clear hw4)
              | (go_at_call 10; refine (HPUT.out _ rfl).mono ?_; rintro e w4 ⟨⟨r, rfl⟩, hr4⟩; have hS4 := HK.out _ hr4))
          all_goals
            go_wp2
            go_meet
            case rel => exact hr4
        · go_wp2_with fail
          refine (next_round HHO.out HIN.out HH.out HB.out).mono ?_
          rintro e w4 ⟨⟨u, rfl⟩, hr4⟩
          go_wp2
          go_meet
          case rel => exact hr4
        · have HHC : Hid (∀ Y, Below wr.heap.size wr Y → Calls Try.prog (fHold c) #[.pointer (some ⟨p, 0, none⟩)] Y fun e w' => e = .returned (.pointer (some ⟨hb, 0, none⟩)) ∧ w' = Y) := fun Y hY => by
            have := whold_any p hb _ _ _ _ _ (HIN.out.below hY)
            rw [HHO.out.cyc] at this
            exact this
          have HFI : Hid (∀ Y, Below wr.heap.size wr Y → Calls Try.prog 18 #[.pointer (some ⟨hb, 0, none⟩)] Y fun e w' => e = .returned (.int .u8 s.first) ∧ w' = Y) := fun Y hY => first_any hb _ _ _ _ (HIN.out.below hY).hold
          have HAN : Hid (∀ Y, Below wr.heap.size wr Y → Calls Try.prog (fAns c) #[.pointer (some ⟨p, 0, none⟩), .agg #[.int .u8 s.first, .int .u8 0, .bool true, .bool true, .int .u8 0, .int .u8 0, .bool false, .slice none 0 0]] Y fun e w' => (∃ r1 r2, e = .returned (.tuple #[.int .i64 r1, .int .i64 r2])) ∧ HR c w sb p hb w') := fun Y hY => ans_round HHO.out HIN.out HH.out HB.out Y hY
          go_upto_region 12 with fail
          go_region_with (first
              | (with_reducible change Calls Try.prog (fHold _) _ _ _; refine (HHC.out _ (Below.refl _ _).drew).mono ?_; rintro e w4 ⟨rfl, hw4⟩; obtain rfl := hw4.symm; clear hw4)
              | (with_reducible change Calls Try.prog (fAns _) _ _ _; refine (HAN.out _ (Below.refl _ _).drew).mono ?_; rintro e w4 ⟨⟨r1, r2, rfl⟩, hr4⟩)
              | (go_at_call 18; refine (HFI.out _ (Below.refl _ _).drew).mono ?_; rintro e w4 ⟨rfl, hw4⟩; obtain rfl := hw4.symm; clear hw4))
          all_goals
            go_wp2
            go_meet
            case rel => exact hr4
      case rest =>
        clear h4 hcz hz2 HK HHO HIN HH HB
        obtain ⟨x2, s2, T2, hho2, hin2, hh2, hB2⟩ := hcut
        have HHR : Hid (∀ Y, Below wc.heap.size wc Y → HR c w sb p hb Y) := fun Y hY => HR.step hin2 hh2 hB2 (Below.refl _ _) hho2 (hin2.below hY) (Foot.of_below hY)
        obtain ⟨f1, f2, f3, f4, f5, f6⟩ := hin2.hold.fine
        obtain ⟨g1, g2, g3, g4⟩ := hho2
        rw [g2] at f5
        rw [g3] at f6
        obtain ⟨n1, hn1⟩ : ∃ n1, n1 = s2.sent.length := ⟨_, rfl⟩
        obtain ⟨nz, hnz⟩ : ∃ nz, nz = sz s2.sent := ⟨_, rfl⟩
        obtain ⟨nx, hnx⟩ : ∃ nx, nx = s2.next.length := ⟨_, rfl⟩
        obtain ⟨nt, hnt⟩ : ∃ nt, nt = sz s2.sent + sz s2.next := ⟨_, rfl⟩
        have HHC : Hid (∀ Y, Below wc.heap.size wc Y → Calls Try.prog (fHold c) #[.pointer (some ⟨p, 0, none⟩)] Y fun e w' => e = .returned (.pointer (some ⟨hb, 0, none⟩)) ∧ w' = Y) := fun Y hY => by
          have := whold_any p hb _ _ _ _ _ (hin2.below hY)
          rw [g1] at this
          exact this
        have HSE : Hid (∀ Y, Below wc.heap.size wc Y → Calls Try.prog 19 #[.pointer (some ⟨hb, 0, none⟩)] Y fun e w' => e = .returned (.int .i64 n1) ∧ w' = Y) := fun Y hY => by
          rw [hn1]; exact sent_any hb _ _ _ _ (hin2.below hY).hold
        have HWA : Hid (∀ Y, Below wc.heap.size wc Y → Calls Try.prog 20 #[.pointer (some ⟨hb, 0, none⟩)] Y fun e w' => e = .returned (.int .i64 nz) ∧ w' = Y) := fun Y hY => by
          rw [hnz]; exact waiting_any hb _ _ _ _ (hin2.below hY).hold
        have HNE : Hid (∀ Y, Below wc.heap.size wc Y → Calls Try.prog 22 #[.pointer (some ⟨hb, 0, none⟩)] Y fun e w' => e = .returned (.int .i64 nx) ∧ w' = Y) := fun Y hY => by
          rw [hnx]; exact next_any hb _ _ _ _ (hin2.below hY).hold
        have HOC : Hid (∀ Y, Below wc.heap.size wc Y → Calls Try.prog 21 #[.pointer (some ⟨hb, 0, none⟩)] Y fun e w' => e = .returned (.int .i64 nt) ∧ Below wc.heap.size wc w') := fun Y hY => by
          rw [hnt]
          refine (octets_any hb _ _ _ _ (hin2.below hY).hold).mono ?_
          rintro e w' ⟨rfl, q, rfl⟩
          exact ⟨rfl, below_drewN hY q⟩
        have HKC : Hid (∀ Y, Below wc.heap.size wc Y → Y.cell? ⟨sb, 3, none⟩ = some (.int .i64 16) ∧ Y.cell? ⟨sb, 4, none⟩ = some (.int .i64 600)) := fun Y hY => by
          have hhY := (hY.block _ (heap_lt hh2)).trans hh2
          constructor <;> simp [World.cell?, hhY, setC]
        have hb0 : Below wc.heap.size wc wc.drew := (Below.refl _ _).drew
        -- the bounds
        have hbn : (n1 : Int) ≤ mm ∧ (1 < n1 → (nz : Int) ≤ oo) ∧ nt ≤ 600 ∧ n1 + nx ≤ 16 := by
          obtain ⟨e1, e2⟩ := HMM.out
          rw [hn1, hnz, hnt, hnx, e1, e2]
          refine ⟨?_, ?_, by omega, by omega⟩
          · cases x2 with
            | inl t =>
              have : c = false := g1.symm
              subst this
              show ((s2.sent.length : Nat) : Int) ≤ 16
              omega
            | inr t =>
              have : c = true := g1.symm
              subst this
              have := g4.2.2.1
              show ((s2.sent.length : Nat) : Int) ≤ 3
              omega
          · intro hlt1
            cases x2 with
            | inl t =>
              have : c = false := g1.symm
              subst this
              show ((sz s2.sent : Nat) : Int) ≤ 600
              omega
            | inr t =>
              have : c = true := g1.symm
              subst this
              have := g4.2.2.2 hlt1
              show ((sz s2.sent : Nat) : Int) ≤ 40
              omega
        have d1 : decide (mm < (n1 : Int)) = false := decide_eq_false (by omega)
        have d4 : decide (600 < (nt : Int)) = false := decide_eq_false (by omega)
        have k5 : IntKind.i64.wrap ((n1 : Int) + (nx : Int)) = (n1 : Int) + (nx : Int) := wrap_small _ (by omega) (by omega)
        have d5 : decide (16 < (n1 : Int) + (nx : Int)) = false := decide_eq_false (by omega)
        have hz600 : 1 < n1 → decide (oo < (nz : Int)) = false := fun h => decide_eq_false (by have := hbn.2.1 h; omega)
        clear hn1 hnz hnx hnt hin2 hh2 hB2 f1 f2 f3 f4 f5 f6 g1 g2 g3 g4 hbn
        by_cases h1 : 1 < n1
        · have d2 : decide ((1 : Int) < (n1 : Int)) = true := decide_eq_true (by omega)
          have d3 := hz600 h1
          clear hz600
          go_upto_region 18 with fail
          go_region_held (fun Y => Y.cell? ⟨sb, 3, none⟩ = some (.int .i64 16) ∧ Y.cell? ⟨sb, 4, none⟩ = some (.int .i64 600)) ((refine HKC.out _ ?_; assumption))
            (first
              | (go_at_call 19; refine (HSE.out _ (by assumption)).mono ?_; rintro e w4 ⟨rfl, hw4⟩; obtain rfl := hw4.symm; clear hw4)
              | (go_at_call 20; refine (HWA.out _ (by assumption)).mono ?_; rintro e w4 ⟨rfl, hw4⟩; obtain rfl := hw4.symm; clear hw4)
              | (go_at_call 22; refine (HNE.out _ (by assumption)).mono ?_; rintro e w4 ⟨rfl, hw4⟩; obtain rfl := hw4.symm; clear hw4)
              | (go_at_call 21; refine (HOC.out _ (by assumption)).mono ?_; rintro e w5 ⟨rfl, hb5⟩)
              | (with_reducible change Calls Try.prog (fHold _) _ _ _; refine (HHC.out _ (by assumption)).mono ?_; rintro e w4 ⟨rfl, hw4⟩; obtain rfl := hw4.symm; clear hw4))
          all_goals
            have HR5 : Hid (HR c w sb p hb w5) := HHR.out w5 hb5
            clear hb5 hb0 HHR HHC HSE HWA HNE HOC HKC
            go_upto_region 10 with fail
            clear d1 d2 d3 d4 d5 k5
            go_wp2_with fail
            go_roundw
            case rel => exact ⟨q + 1, by omega, by go_num, HR5.out⟩
            case measure => simp [intOf]; omega
        · have d2 : decide ((1 : Int) < (n1 : Int)) = false := decide_eq_false (by omega)
          clear hz600
          go_upto_region 18 with fail
          first
          | (go_region_held (fun Y => Y.cell? ⟨sb, 3, none⟩ = some (.int .i64 16) ∧ Y.cell? ⟨sb, 4, none⟩ = some (.int .i64 600)) ((refine HKC.out _ ?_; assumption))
            (first
              | (go_at_call 19; refine (HSE.out _ (by assumption)).mono ?_; rintro e w4 ⟨rfl, hw4⟩; obtain rfl := hw4.symm; clear hw4)
              | (go_at_call 20; refine (HWA.out _ (by assumption)).mono ?_; rintro e w4 ⟨rfl, hw4⟩; obtain rfl := hw4.symm; clear hw4)
              | (go_at_call 22; refine (HNE.out _ (by assumption)).mono ?_; rintro e w4 ⟨rfl, hw4⟩; obtain rfl := hw4.symm; clear hw4)
              | (go_at_call 21; refine (HOC.out _ (by assumption)).mono ?_; rintro e w5 ⟨rfl, hb5⟩)
              | (with_reducible change Calls Try.prog (fHold _) _ _ _; refine (HHC.out _ (by assumption)).mono ?_; rintro e w4 ⟨rfl, hw4⟩; obtain rfl := hw4.symm; clear hw4)))
          | fail
          all_goals
            have HR5 : Hid (HR c w sb p hb w5) := HHR.out w5 hb5
            clear hb5 hb0 HHR HHC HSE HWA HNE HOC HKC
            go_upto_region 10 with fail
            clear d1 d2 d4 d5 k5
            go_wp2_with fail
            go_roundw
            case rel => exact ⟨q + 1, by omega, by go_num, HR5.out⟩
            case measure => simp [intOf]; omega
    · obtain ⟨-, -, -, -, -, -, hB9⟩ : HR c w sb p hb wr := ⟨x, s, T1, hho, hin, hh, hB⟩
      have HB9 : Hid (Below w.heap.size w wr) := hB9
      clear hho hin hh hB hB9
      go_wp2_with fail
      go_ret
      exact ⟨rfl, HB9.out⟩
end Go.Proofs.Ytmjogdhfndnbaaa.Tape
