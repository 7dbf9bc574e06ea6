/- The walk of the law StateAligns. -/
import Derived.Test.YtldjglmelbkngaaGreatClo2
import Derived.Test.YtldjglmelbkngaaGreatState20
namespace Go.Proofs.YtldjglmelbkngaaGreat.Tape
open Go.ChangeShapes Go.WideShapes Go.ChangeAt Go.RowKit
set_option linter.unusedVariables false

attribute [local go_sem ↓] ldU_def stU_def

/-- The law's timers beside a State. -/
def Tms (g : Nat) : World → (Nat → Prop) → Prop := fun w T => w.heap[g]? = some (.cells #[.int .i64 5, .int .i64 40, .int .i64 60, .int .i64 50, .int .i64 10, .int .i64 6, .int .i64 30, .int .i64 25] 26 (0, 0)) ∧ ¬ T g
theorem stays_tms (g : Nat) : Stays (Tms g) := fun w w' T T' hf hk =>
  ⟨(hf.block _ (heap_lt hk.1) hk.2).trans hk.1, fun e => (hf.moved g e).elim hk.2 fun e => by have := heap_lt hk.1; omega⟩
theorem LA.tms {w0 w : World} {P : Pl} {k : Nat} {x : St} (h : LA w0 P k x noK w) : LA w0 P k x (Tms w.heap.size) (w.alloc (.cells #[.int .i64 5, .int .i64 40, .int .i64 60, .int .i64 50, .int .i64 10, .int .i64 6, .int .i64 30, .int .i64 25] 26)) := by
  obtain ⟨⟨T, hS, hK⟩, hs, hb0, hl⟩ := h
  have hB : Below w.heap.size w (w.alloc (.cells #[.int .i64 5, .int .i64 40, .int .i64 60, .int .i64 50, .int .i64 10, .int .i64 6, .int .i64 30, .int .i64 25] 26)) := (Below.refl _ _).alloc (Nat.le_refl _) _
  exact ⟨⟨T, hS.keep hB, heap_alloc_new w _, fun e => by have := (hS.lt.1 _ e).2; omega⟩, stays_tms _, hb0.trans (below_le hB hb0.size), hl⟩
theorem LA.tm {w0 w : World} {P : Pl} {k : Nat} {x : St} {g : Nat} (h : LA w0 P k x (Tms g) w) : w.cell? ⟨g, 0, none⟩ = some (.int .i64 5) ∧ w.cell? ⟨g, 1, none⟩ = some (.int .i64 40) ∧ w.cell? ⟨g, 2, none⟩ = some (.int .i64 60) ∧ w.cell? ⟨g, 3, none⟩ = some (.int .i64 50) ∧ w.cell? ⟨g, 4, none⟩ = some (.int .i64 10) := by
  obtain ⟨⟨T, hS, hK, -⟩, -⟩ := h
  refine ⟨?_, ?_, ?_, ?_, ?_⟩ <;> rw [Lib.cell_of_heap hK] <;> rfl

set_option maxRecDepth 100000 in
set_option maxHeartbeats 4000000 in
theorem aligns_walk (c h : Bool) (late miss : Int) (w : World) (n0 : 0 ≤ late) (n1 : late ≤ 255) (l0 : 0 ≤ miss) (l1 : miss ≤ 255) : Calls Tryz.prog 11 #[.bool c, .bool h, .int .u8 late, .int .u8 miss] w fun e w' => e = .returned (.bool true) ∧ Below w.heap.size w w' := by
  have haw := awake17_any w
  have hkm : miss.tmod 5 = miss % 5 := Int.tmod_eq_emod_of_nonneg l0
  obtain ⟨k, hk⟩ : ∃ k : Int, miss % 5 = k := ⟨_, rfl⟩
  have hk5 : 0 ≤ k ∧ k < 5 := by omega
  rw [hk] at hkm
  have h60 : late.tmod 60 = late % 60 := Int.tmod_eq_emod_of_nonneg n0
  obtain ⟨p2, hp2⟩ : ∃ q : Nat, late % 60 = (q : Int) := ⟨(late % 60).toNat, by omega⟩
  have hp2' : p2 < 60 := by omega
  rw [hp2] at h60
  have h50 : late.tmod 50 = late % 50 := Int.tmod_eq_emod_of_nonneg n0
  obtain ⟨p3, hp3⟩ : ∃ q : Nat, late % 50 = (q : Int) := ⟨(late % 50).toNat, by omega⟩
  have hp3' : p3 < 50 := by omega
  rw [hp3] at h50
  have h40 : late.tmod 40 = late % 40 := Int.tmod_eq_emod_of_nonneg n0
  obtain ⟨p1, hp1⟩ : ∃ q : Nat, late % 40 = (q : Int) := ⟨(late % 40).toNat, by omega⟩
  have hp1' : p1 < 40 := by omega
  rw [hp1] at h40
  clear hk hp1 hp2 hp3
  go_enter Tryz.func11, Tryz.ntmps11
  go_wp2_with fail
  refine haw.mono ?_
  rintro e w1 ⟨rfl, hB1⟩
  have hqu := quick_any c w1
  have HB1 : Hid (Below w.heap.size w w1) := hB1
  clear haw hB1
  go_wp2_with fail
  refine hqu.mono ?_
  rintro e w2 ⟨rfl, hB2⟩
  have hne := quicknew_any c w2
  have HB2 : Hid (Below w.heap.size w w2) := HB1.out.trans (below_le hB2 HB1.out.size)
  clear hqu hB2 HB1
  go_wp2_with fail
  refine hne.mono ?_
  rintro e w3 ⟨P, rfl, hcy, hPB, hA⟩
  have hA := hA.base HB2.out
  clear hne hcy hPB HB2
  cases h
  · have hor := LA.order0 (k := 998) hA 1
    clear hA
    go_wp2_with fail
    refine hor.mono ?_
    rintro e w4 ⟨rfl, hA⟩
    have HA4 : Hid (LA w P 990 (aA c false) noK w4) := LA.mono (x := aA c false) hA (by omega)
    clear hor hA
    have HA5 : Hid (LA w P 990 (aA c false) (Tms w4.heap.size) (w4.alloc (.cells #[.int .i64 5, .int .i64 40, .int .i64 60, .int .i64 50, .int .i64 10, .int .i64 6, .int .i64 30, .int .i64 25] 26))) := HA4.out.tms
    go_upto_region 8 with fail
    generalize w4.alloc (.cells #[.int .i64 5, .int .i64 40, .int .i64 60, .int .i64 50, .int .i64 10, .int .i64 6, .int .i64 30, .int .i64 25] 26) = W5 at *
    generalize w4.heap.size = g at *
    clear HA4
    obtain ⟨x1, x2, x3⟩ := aA_xs c false
    obtain ⟨t0, t1, t2, t3, t4⟩ := HA5.out.tm
    by_cases hk0 : k = 0
    · have hwa := wait_any (w0 := w) (P := P) (x := aA c false) (K := Tms g) 60 (by omega) 800 (roomT1 x1 x2 (x3.mono (by omega)) 60 rfl ((aA_out c false).2.2.mono (by omega))) W5 (HA5.out.mono (by omega))
      rw [show ((60 : Nat) : Int) = 60 from rfl] at hwa
      subst hk0
      clear HA5 x1 x2 x3
      go_wp2_with fail
      refine hwa.mono ?_
      rintro e w6 ⟨rfl, hA⟩
      clear hwa t0 t1 t2 t3 t4
      obtain ⟨o1, o2, -⟩ := aA_out c false
      have hto := hA.told
      rw [o2] at hto
      have HS := (show Hid _ from ((took_s _).trans o1))
      clear hA o1 o2
      go_wp2_with fail
      refine hto.mono ?_
      rintro e w9 ⟨v, rfl, hA⟩
      obtain ⟨ao, cap, rfl, hcell⟩ := hA.read
      obtain ⟨g1, rfl, hc⟩ := hcell 0 _ rfl
      have d1 : w9.cell? ⟨g1, 1, none⟩ = some (.int .u8 7) := by simpa [tdC] using hc 1 (by omega)
      have c0 := hA.all.1
      rw [HS.out] at c0
      have HB : Hid (Below w.heap.size w w9) := hA.below
      clear hto hA hcell hc HS
      go_wp2
      go_ret
      exact ⟨rfl, HB.out⟩
    have k0 : (k == 0) = false := by rw [beq_eq_false_iff_ne]; exact hk0
    have hwa := wait_any (w0 := w) (P := P) (x := aA c false) (K := Tms g) p2 (by omega) 900 (roomT x1 x2 (x3.mono (by omega)) p2 (by omega)) W5 (HA5.out.mono (by omega))
    rw [tksT x1 x2 p2 (by omega)] at hwa
    clear HA5 x1 x2 x3
    go_wp2_with fail
    refine hwa.mono ?_
    rintro e w6 ⟨rfl, hA⟩
    have hlk := link_any 0 w6
    have HA6 := (show Hid _ from hA)
    clear hwa hA t0 t1 t2 t3 t4
    go_wp2_with fail
    refine hlk.mono ?_
    rintro e w7 ⟨rfl, hB⟩
    have hhe := LA.hear0 (k := 890) (HA6.out.keep hB) 127 127 1 0 true true false (by decide) (by decide)
    clear hlk hB HA6
    go_wp2_with fail
    refine hhe.mono ?_
    rintro e w8 ⟨rfl, q1, hA⟩
    rw [aB_eq] at hA
    obtain ⟨x1, x2, x3⟩ := aB_xs c false
    have HA5 : Hid (LA w P 980 (aB c false) (Tms g) w8) := LA.room hA x3
    obtain ⟨t0, t1, t2, t3, t4⟩ := HA5.out.tm
    clear hhe hA
    by_cases hk1 : k = 1
    · have hwa := wait_any (w0 := w) (P := P) (x := aB c false) (K := Tms g) 50 (by omega) 800 (roomT1 x1 x2 (x3.mono (by omega)) 50 rfl ((aB_out c false).2.2.mono (by omega))) w8 (HA5.out.mono (by omega))
      rw [show ((50 : Nat) : Int) = 50 from rfl] at hwa
      subst hk1
      clear HA5 x1 x2 x3
      go_wp2_with fail
      refine hwa.mono ?_
      rintro e w9 ⟨rfl, hA⟩
      clear hwa t0 t1 t2 t3 t4
      obtain ⟨o1, o2, -⟩ := aB_out c false
      have hto := hA.told
      rw [o2] at hto
      have HS := (show Hid _ from ((took_s _).trans o1))
      clear hA o1 o2
      go_wp2_with fail
      refine hto.mono ?_
      rintro e w10 ⟨v, rfl, hA⟩
      obtain ⟨ao, cap, rfl, hcell⟩ := hA.read
      obtain ⟨g1, rfl, hc⟩ := hcell 0 _ rfl
      have d1 : w10.cell? ⟨g1, 1, none⟩ = some (.int .u8 7) := by simpa [tdC] using hc 1 (by omega)
      have c0 := hA.all.1
      rw [HS.out] at c0
      have HB : Hid (Below w.heap.size w w10) := hA.below
      clear hto hA hcell hc HS
      go_wp2
      go_ret
      exact ⟨rfl, HB.out⟩
    have k1 : (k == 1) = false := by rw [beq_eq_false_iff_ne]; exact hk1
    have hwa := wait_any (w0 := w) (P := P) (x := aB c false) (K := Tms g) p3 (by omega) 900 (roomT x1 x2 (x3.mono (by omega)) p3 (by omega)) w8 (HA5.out.mono (by omega))
    rw [tksT x1 x2 p3 (by omega)] at hwa
    clear HA5 x1 x2 x3
    go_wp2_with fail
    refine hwa.mono ?_
    rintro e w9 ⟨rfl, hA⟩
    have hlk := link_any 1 w9
    have HA6 := (show Hid _ from hA)
    clear hwa hA t0 t1 t2 t3 t4
    go_wp2_with fail
    refine hlk.mono ?_
    rintro e w10 ⟨rfl, hB⟩
    have hhe := LA.hear0 (k := 890) (HA6.out.keep hB) 127 127 1 1 true true false (by decide) (by decide)
    clear hlk hB HA6
    go_wp2_with fail
    refine hhe.mono ?_
    rintro e w11 ⟨rfl, q2, hA⟩
    rw [aD_eq] at hA
    obtain ⟨x1, x2, x3⟩ := aD_xs c false
    have hA5 : LA w P 970 (aD c false) (Tms g) w11 := LA.room hA x3
    obtain ⟨t0, t1, t2, t3, t4⟩ := hA5.tm
    obtain ⟨r1, r2, r3, r4⟩ := aD_rooms c false 9 rfl
    have hwa := wait_any (w0 := w) (P := P) (x := aD c false) (K := Tms g) 9 (by omega) 884 r1 w11 (hA5.mono (by omega))
    rw [show ((9 : Nat) : Int) = 9 from rfl] at hwa
    generalize (aD c false).tks 9 = Y at hwa r2 r3 r4
    have HR : Hid ((∀ i, i ≤ 1 → Room 900 (Y.tks i)) ∧ Y.tks 1 = aR c false ∧ Y.s = 1) := ⟨r3, r4, r2⟩
    clear r1 r2 r3 r4
    clear hhe hA hA5 x1 x2 x3
    go_wp2_with fail
    refine hwa.mono ?_
    rintro e w12 ⟨rfl, hA⟩
    have c0 := hA.all.1
    rw [HR.out.2.2] at c0
    have hwa2 := wait_any (w0 := w) (P := P) (x := Y) (K := Tms g) 1 (by omega) 884 HR.out.1 w12 hA
    rw [show ((1 : Nat) : Int) = 1 from rfl, HR.out.2.1] at hwa2
    clear hwa hA t0 t1 t2 t3 t4 HR
    go_wp2_with fail
    refine hwa2.mono ?_
    rintro e w13 ⟨rfl, hA⟩
    obtain ⟨x1, x2, o1, x3⟩ := aR_xs c false
    have HA5 : Hid (LA w P 960 (aR c false) (Tms g) w13) := LA.room hA x3
    obtain ⟨t0, t1, t2, t3, t4⟩ := hA.tm
    have c0 := hA.all.1
    rw [o1] at c0
    clear hwa2 hA o1
    by_cases hk2 : k = 2
    · have hwa := wait_any (w0 := w) (P := P) (x := aR c false) (K := Tms g) 40 (by omega) 800 (roomT1 x1 x2 (x3.mono (by omega)) 40 rfl ((aR_out c false).2.2.mono (by omega))) w13 (HA5.out.mono (by omega))
      rw [show ((40 : Nat) : Int) = 40 from rfl] at hwa
      subst hk2
      clear HA5 x1 x2 x3
      go_wp2_with fail
      refine hwa.mono ?_
      rintro e w14 ⟨rfl, hA⟩
      clear hwa t0 t1 t2 t3 t4 c0
      obtain ⟨o1, o2, -⟩ := aR_out c false
      have hto := hA.told
      rw [o2] at hto
      have HS := (show Hid _ from ((took_s _).trans o1))
      clear hA o1 o2
      go_wp2_with fail
      refine hto.mono ?_
      rintro e w15 ⟨v, rfl, hA⟩
      obtain ⟨ao, cap, rfl, hcell⟩ := hA.read
      obtain ⟨g1, rfl, hc⟩ := hcell 0 _ rfl
      have d1 : w15.cell? ⟨g1, 1, none⟩ = some (.int .u8 6) := by simpa [tdC] using hc 1 (by omega)
      have c0 := hA.all.1
      rw [HS.out] at c0
      have HB : Hid (Below w.heap.size w w15) := hA.below
      clear hto hA hcell hc HS
      go_wp2
      go_ret
      exact ⟨rfl, HB.out⟩
    have k2 : (k == 2) = false := by rw [beq_eq_false_iff_ne]; exact hk2
    have hwa := wait_any (w0 := w) (P := P) (x := aR c false) (K := Tms g) p1 (by omega) 900 (roomT x1 x2 (x3.mono (by omega)) p1 (by omega)) w13 (HA5.out.mono (by omega))
    rw [tksT x1 x2 p1 (by omega)] at hwa
    clear HA5 x1 x2 x3
    go_wp2_with fail
    refine hwa.mono ?_
    rintro e w14 ⟨rfl, hA⟩
    have hfi := lfill_any w14
    have HA6 := (show Hid _ from hA)
    clear hwa hA t0 t1 t2 t3 t4 c0
    go_wp2_with fail
    refine hfi.mono ?_
    rintro e w15 ⟨rfl, hB⟩
    have hhe := LA.hear0 (k := 890) (HA6.out.keep hB) 127 127 0 0 true true false (by decide) (by decide)
    clear hfi hB HA6
    go_wp2_with fail
    refine hhe.mono ?_
    rintro e w16 ⟨rfl, q3, hA⟩
    obtain ⟨o1, o2, o3⟩ := aS_all c false (40 - (p1 : Int)) q3
    have hto := hA.told
    rw [o2] at hto
    generalize ((aR c false).setC (xsT 1 (40 - (p1 : Int)))).hear 127 127 0 0 true true q3 = X at *
    clear hhe hA o2
    go_wp2_with fail
    refine hto.mono ?_
    rintro e w17 ⟨v, rfl, hA⟩
    obtain ⟨ao, cap, rfl, hcell⟩ := hA.read
    obtain ⟨g1, rfl, hc⟩ := hcell 0 _ rfl
    have d0 : w17.cell? ⟨g1, 0, none⟩ = some (.int .u8 1) := by simpa [tdC] using hc 0 (by omega)
    obtain ⟨c0, c1, -⟩ := hA.all
    rw [took_s, o1] at c0
    have hon := hA.on 1
    rw [o3] at hon
    have HB : Hid (Below w.heap.size w w17) := hA.below
    clear hto hA hcell hc o1 o3
    go_wp2_with fail
    refine hon.mono ?_
    rintro e w18 ⟨rfl, rfl⟩
    clear hon
    go_wp2
    go_ret
    exact ⟨rfl, HB.out⟩
  · have hor := LA.order0 (k := 998) hA 3
    clear hA
    go_wp2_with fail
    refine hor.mono ?_
    rintro e wh ⟨rfl, hA⟩
    have hor2 := LA.order0 (k := 996) hA 1
    clear hor hA
    go_wp2_with fail
    refine hor2.mono ?_
    rintro e w4 ⟨rfl, hA⟩
    have HA4 : Hid (LA w P 990 (aA c true) noK w4) := LA.mono (x := aA c true) hA (by omega)
    clear hor2 hA
    have HA5 : Hid (LA w P 990 (aA c true) (Tms w4.heap.size) (w4.alloc (.cells #[.int .i64 5, .int .i64 40, .int .i64 60, .int .i64 50, .int .i64 10, .int .i64 6, .int .i64 30, .int .i64 25] 26))) := HA4.out.tms
    go_upto_region 8 with fail
    generalize w4.alloc (.cells #[.int .i64 5, .int .i64 40, .int .i64 60, .int .i64 50, .int .i64 10, .int .i64 6, .int .i64 30, .int .i64 25] 26) = W5 at *
    generalize w4.heap.size = g at *
    clear HA4
    obtain ⟨x1, x2, x3⟩ := aA_xs c true
    obtain ⟨t0, t1, t2, t3, t4⟩ := HA5.out.tm
    by_cases hk0 : k = 0
    · have hwa := wait_any (w0 := w) (P := P) (x := aA c true) (K := Tms g) 60 (by omega) 800 (roomT1 x1 x2 (x3.mono (by omega)) 60 rfl ((aA_out c true).2.2.mono (by omega))) W5 (HA5.out.mono (by omega))
      rw [show ((60 : Nat) : Int) = 60 from rfl] at hwa
      subst hk0
      clear HA5 x1 x2 x3
      go_wp2_with fail
      refine hwa.mono ?_
      rintro e w6 ⟨rfl, hA⟩
      clear hwa t0 t1 t2 t3 t4
      obtain ⟨o1, o2, -⟩ := aA_out c true
      have hto := hA.told
      rw [o2] at hto
      have HS := (show Hid _ from ((took_s _).trans o1))
      clear hA o1 o2
      go_wp2_with fail
      refine hto.mono ?_
      rintro e w9 ⟨v, rfl, hA⟩
      obtain ⟨ao, cap, rfl, hcell⟩ := hA.read
      obtain ⟨g1, rfl, hc⟩ := hcell 0 _ rfl
      have d1 : w9.cell? ⟨g1, 1, none⟩ = some (.int .u8 7) := by simpa [tdC] using hc 1 (by omega)
      have c0 := hA.all.1
      rw [HS.out] at c0
      have HB : Hid (Below w.heap.size w w9) := hA.below
      clear hto hA hcell hc HS
      go_wp2
      go_ret
      exact ⟨rfl, HB.out⟩
    have k0 : (k == 0) = false := by rw [beq_eq_false_iff_ne]; exact hk0
    have hwa := wait_any (w0 := w) (P := P) (x := aA c true) (K := Tms g) p2 (by omega) 900 (roomT x1 x2 (x3.mono (by omega)) p2 (by omega)) W5 (HA5.out.mono (by omega))
    rw [tksT x1 x2 p2 (by omega)] at hwa
    clear HA5 x1 x2 x3
    go_wp2_with fail
    refine hwa.mono ?_
    rintro e w6 ⟨rfl, hA⟩
    have hlk := link_any 0 w6
    have HA6 := (show Hid _ from hA)
    clear hwa hA t0 t1 t2 t3 t4
    go_wp2_with fail
    refine hlk.mono ?_
    rintro e w7 ⟨rfl, hB⟩
    have hhe := LA.hear0 (k := 890) (HA6.out.keep hB) 127 127 1 0 true true false (by decide) (by decide)
    clear hlk hB HA6
    go_wp2_with fail
    refine hhe.mono ?_
    rintro e w8 ⟨rfl, q1, hA⟩
    rw [aB_eq] at hA
    obtain ⟨x1, x2, x3⟩ := aB_xs c true
    have HA5 : Hid (LA w P 980 (aB c true) (Tms g) w8) := LA.room hA x3
    obtain ⟨t0, t1, t2, t3, t4⟩ := HA5.out.tm
    clear hhe hA
    by_cases hk1 : k = 1
    · have hwa := wait_any (w0 := w) (P := P) (x := aB c true) (K := Tms g) 50 (by omega) 800 (roomT1 x1 x2 (x3.mono (by omega)) 50 rfl ((aB_out c true).2.2.mono (by omega))) w8 (HA5.out.mono (by omega))
      rw [show ((50 : Nat) : Int) = 50 from rfl] at hwa
      subst hk1
      clear HA5 x1 x2 x3
      go_wp2_with fail
      refine hwa.mono ?_
      rintro e w9 ⟨rfl, hA⟩
      clear hwa t0 t1 t2 t3 t4
      obtain ⟨o1, o2, -⟩ := aB_out c true
      have hto := hA.told
      rw [o2] at hto
      have HS := (show Hid _ from ((took_s _).trans o1))
      clear hA o1 o2
      go_wp2_with fail
      refine hto.mono ?_
      rintro e w10 ⟨v, rfl, hA⟩
      obtain ⟨ao, cap, rfl, hcell⟩ := hA.read
      obtain ⟨g1, rfl, hc⟩ := hcell 0 _ rfl
      have d1 : w10.cell? ⟨g1, 1, none⟩ = some (.int .u8 7) := by simpa [tdC] using hc 1 (by omega)
      have c0 := hA.all.1
      rw [HS.out] at c0
      have HB : Hid (Below w.heap.size w w10) := hA.below
      clear hto hA hcell hc HS
      go_wp2
      go_ret
      exact ⟨rfl, HB.out⟩
    have k1 : (k == 1) = false := by rw [beq_eq_false_iff_ne]; exact hk1
    have hwa := wait_any (w0 := w) (P := P) (x := aB c true) (K := Tms g) p3 (by omega) 900 (roomT x1 x2 (x3.mono (by omega)) p3 (by omega)) w8 (HA5.out.mono (by omega))
    rw [tksT x1 x2 p3 (by omega)] at hwa
    clear HA5 x1 x2 x3
    go_wp2_with fail
    refine hwa.mono ?_
    rintro e w9 ⟨rfl, hA⟩
    have hlk := link_any 1 w9
    have HA6 := (show Hid _ from hA)
    clear hwa hA t0 t1 t2 t3 t4
    go_wp2_with fail
    refine hlk.mono ?_
    rintro e w10 ⟨rfl, hB⟩
    have hhe := LA.hear0 (k := 890) (HA6.out.keep hB) 127 127 1 1 true true false (by decide) (by decide)
    clear hlk hB HA6
    go_wp2_with fail
    refine hhe.mono ?_
    rintro e w11 ⟨rfl, q2, hA⟩
    rw [aD_eq] at hA
    obtain ⟨x1, x2, x3⟩ := aD_xs c true
    have hA5 : LA w P 970 (aD c true) (Tms g) w11 := LA.room hA x3
    obtain ⟨t0, t1, t2, t3, t4⟩ := hA5.tm
    obtain ⟨r1, r2, r3, r4⟩ := aD_rooms c true 4 rfl
    have hwa := wait_any (w0 := w) (P := P) (x := aD c true) (K := Tms g) 4 (by omega) 884 r1 w11 (hA5.mono (by omega))
    rw [show ((4 : Nat) : Int) = 4 from rfl] at hwa
    generalize (aD c true).tks 4 = Y at hwa r2 r3 r4
    have HR : Hid ((∀ i, i ≤ 1 → Room 900 (Y.tks i)) ∧ Y.tks 1 = aR c true ∧ Y.s = 1) := ⟨r3, r4, r2⟩
    clear r1 r2 r3 r4
    clear hhe hA hA5 x1 x2 x3
    go_wp2_with fail
    refine hwa.mono ?_
    rintro e w12 ⟨rfl, hA⟩
    have c0 := hA.all.1
    rw [HR.out.2.2] at c0
    have hwa2 := wait_any (w0 := w) (P := P) (x := Y) (K := Tms g) 1 (by omega) 884 HR.out.1 w12 hA
    rw [show ((1 : Nat) : Int) = 1 from rfl, HR.out.2.1] at hwa2
    clear hwa hA t0 t1 t2 t3 t4 HR
    go_wp2_with fail
    refine hwa2.mono ?_
    rintro e w13 ⟨rfl, hA⟩
    obtain ⟨x1, x2, o1, x3⟩ := aR_xs c true
    have HA5 : Hid (LA w P 960 (aR c true) (Tms g) w13) := LA.room hA x3
    obtain ⟨t0, t1, t2, t3, t4⟩ := hA.tm
    have c0 := hA.all.1
    rw [o1] at c0
    clear hwa2 hA o1
    by_cases hk2 : k = 2
    · have hwa := wait_any (w0 := w) (P := P) (x := aR c true) (K := Tms g) 40 (by omega) 800 (roomT1 x1 x2 (x3.mono (by omega)) 40 rfl ((aR_out c true).2.2.mono (by omega))) w13 (HA5.out.mono (by omega))
      rw [show ((40 : Nat) : Int) = 40 from rfl] at hwa
      subst hk2
      clear HA5 x1 x2 x3
      go_wp2_with fail
      refine hwa.mono ?_
      rintro e w14 ⟨rfl, hA⟩
      clear hwa t0 t1 t2 t3 t4 c0
      obtain ⟨o1, o2, -⟩ := aR_out c true
      have hto := hA.told
      rw [o2] at hto
      have HS := (show Hid _ from ((took_s _).trans o1))
      clear hA o1 o2
      go_wp2_with fail
      refine hto.mono ?_
      rintro e w15 ⟨v, rfl, hA⟩
      obtain ⟨ao, cap, rfl, hcell⟩ := hA.read
      obtain ⟨g1, rfl, hc⟩ := hcell 0 _ rfl
      have d1 : w15.cell? ⟨g1, 1, none⟩ = some (.int .u8 6) := by simpa [tdC] using hc 1 (by omega)
      have c0 := hA.all.1
      rw [HS.out] at c0
      have HB : Hid (Below w.heap.size w w15) := hA.below
      clear hto hA hcell hc HS
      go_wp2
      go_ret
      exact ⟨rfl, HB.out⟩
    have k2 : (k == 2) = false := by rw [beq_eq_false_iff_ne]; exact hk2
    have hwa := wait_any (w0 := w) (P := P) (x := aR c true) (K := Tms g) p1 (by omega) 900 (roomT x1 x2 (x3.mono (by omega)) p1 (by omega)) w13 (HA5.out.mono (by omega))
    rw [tksT x1 x2 p1 (by omega)] at hwa
    clear HA5 x1 x2 x3
    go_wp2_with fail
    refine hwa.mono ?_
    rintro e w14 ⟨rfl, hA⟩
    have hfi := lfill_any w14
    have HA6 := (show Hid _ from hA)
    clear hwa hA t0 t1 t2 t3 t4 c0
    go_wp2_with fail
    refine hfi.mono ?_
    rintro e w15 ⟨rfl, hB⟩
    have hhe := LA.hear0 (k := 890) (HA6.out.keep hB) 127 127 0 0 true true false (by decide) (by decide)
    clear hfi hB HA6
    go_wp2_with fail
    refine hhe.mono ?_
    rintro e w16 ⟨rfl, q3, hA⟩
    obtain ⟨o1, o2, o3⟩ := aS_all c true (40 - (p1 : Int)) q3
    have hto := hA.told
    rw [o2] at hto
    generalize ((aR c true).setC (xsT 1 (40 - (p1 : Int)))).hear 127 127 0 0 true true q3 = X at *
    clear hhe hA o2
    go_wp2_with fail
    refine hto.mono ?_
    rintro e w17 ⟨v, rfl, hA⟩
    obtain ⟨ao, cap, rfl, hcell⟩ := hA.read
    obtain ⟨g1, rfl, hc⟩ := hcell 0 _ rfl
    have d0 : w17.cell? ⟨g1, 0, none⟩ = some (.int .u8 1) := by simpa [tdC] using hc 0 (by omega)
    obtain ⟨c0, c1, -⟩ := hA.all
    rw [took_s, o1] at c0
    have hon := hA.on 1
    rw [o3] at hon
    have HB : Hid (Below w.heap.size w w17) := hA.below
    clear hto hA hcell hc o1 o3
    go_wp2_with fail
    refine hon.mono ?_
    rintro e w18 ⟨rfl, rfl⟩
    clear hon
    go_wp2
    go_ret
    exact ⟨rfl, HB.out⟩
end Go.Proofs.YtldjglmelbkngaaGreat.Tape
