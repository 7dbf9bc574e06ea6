/- The walk of the law OutageSteps. -/
import Derived.Test.YteemfdbhcehfgaaOut1
import Derived.Deep.RegionHeld
import Derived.Deep.RegionWith
import Derived.Deep.CutBlock
namespace Go.Proofs.Yteemfdbhcehfgaa.Tape
open Go.ChangeShapes Go.WideShapes Go.ChangeAt Go.RowKit
set_option linter.unusedVariables false

theorem goes_ff : goes false false = true := rfl
theorem goes_ft : goes false true = false := rfl
theorem goes_tf : goes true false = false := rfl
theorem goes_tt : goes true true = false := rfl
attribute [local go_sem] goes_ff goes_ft goes_tf goes_tt

set_option maxRecDepth 100000 in
set_option maxHeartbeats 4000000 in
theorem outsteps_walk (v : Value) (o : Bool) (w : World) (hv : IsOutage w v) : Calls Try.prog 3 #[v, .bool o] w fun e w' => e = .returned (.bool true) ∧ Below w.heap.size w w' := by
  obtain ⟨a, b, c, rfl⟩ := hv
  have hO0 := OutAt.new w a b c
  have hB0 := (Below.refl w.heap.size w).alloc (Nat.le_refl _) (.cells #[.bool a, .bool b, .bool c] 23)
  have h1 := local_any a b c o (w.alloc (.cells #[.bool a, .bool b, .bool c] 23))
  go_enter Try.func3, Try.ntmps3
  go_wp2_with fail
  refine h1.mono ?_
  rintro e w1 ⟨rfl, hB1⟩
  have hO01 := hO0.keep hB1 hO0.lt
  have hB1' := hB0.trans (hB1.mono hB0.size)
  have hO1 := OutAt.new w1 o b c
  have hB2 := (Below.refl w1.heap.size w1).alloc (Nat.le_refl _) (.cells #[.bool o, .bool b, .bool c] 23)
  have hO02 := hO01.keep hB2 hO01.lt
  have hB2' := hB1'.trans (hB2.mono hB1'.size)
  have h2 := remote_any a b c o (w1.alloc (.cells #[.bool o, .bool b, .bool c] 23))
  obtain ⟨⟨c00, c01, c02⟩, -⟩ := hO02.all
  clear h1 hO0 hB0 hB1 hO01 hB1' hB2
  go_wp2_with fail
  refine h2.mono ?_
  rintro e w2 ⟨rfl, hB3⟩
  have hO03 := hO02.keep hB3 hO02.lt
  have hO13 := hO1.keep hB3 hO1.lt
  have hB3' := hB2'.trans (hB3.mono hB2'.size)
  have hO2 := OutAt.new w2 a o (c || o)
  have hB4 := (Below.refl w2.heap.size w2).alloc (Nat.le_refl _) (.cells #[.bool a, .bool o, .bool (c || o)] 23)
  have hO04 := hO03.keep hB4 hO03.lt
  have hO14 := hO13.keep hB4 hO13.lt
  have hB4' := hB3'.trans (hB4.mono hB3'.size)
  have h3 := cont_any a b c (w2.alloc (.cells #[.bool a, .bool o, .bool (c || o)] 23))
  clear c00 c01 c02
  obtain ⟨⟨c00, c01, c02⟩, -⟩ := hO04.all
  clear h2 hO02 hO1 hB2' hB3 hO03 hO13 hB3' hB4
  generalize w1.heap.size = p1 at *
  go_wp2_with fail
  refine h3.mono ?_
  rintro e w3 ⟨rfl, hB5⟩
  have hO05 := hO04.keep hB5 hO04.lt
  have hO15 := hO14.keep hB5 hO14.lt
  have hO25 := hO2.keep hB5 hO2.lt
  have hB5' := hB4'.trans (hB5.mono hB4'.size)
  have hO3 := OutAt.new w3 a b (c && !goes a b)
  have hB6 := (Below.refl w3.heap.size w3).alloc (Nat.le_refl _) (.cells #[.bool a, .bool b, .bool (c && !goes a b)] 23)
  have hO06 := hO05.keep hB6 hO05.lt
  have hO16 := hO15.keep hB6 hO15.lt
  have hO26 := hO25.keep hB6 hO25.lt
  have hB6' := hB5'.trans (hB6.mono hB5'.size)
  have h4 := awake15_any (w3.alloc (.cells #[.bool a, .bool b, .bool (c && !goes a b)] 23))
  clear h3 hO04 hO14 hO2 hB4' hB5 hO05 hO15 hO25 hB5' hB6
  generalize w2.heap.size = p2 at *
  go_wp2_with fail
  refine h4.mono ?_
  rintro e w4 ⟨rfl, hB7⟩
  have hO07 := hO06.keep hB7 hO06.lt
  have hO17 := hO16.keep hB7 hO16.lt
  have hO27 := hO26.keep hB7 hO26.lt
  have hO37 := hO3.keep hB7 hO3.lt
  have HB7 : Hid (Below w.heap.size w w4) := hB6'.trans (hB7.mono hB6'.size)
  have hi := is_any a b c
  clear h4 hO06 hO16 hO26 hO3 hB6' hB7
  generalize w3.heap.size = p3 at *
  obtain ⟨p0, hp0⟩ : ∃ p0, w.heap.size = p0 := ⟨_, rfl⟩
  rw [hp0] at hO07
  rw [hp0]
  clear hp0
  clear c00 c01 c02
  obtain ⟨⟨c00, c01, c02⟩, -⟩ := hO07.all
  obtain ⟨⟨c10, c11, c12⟩, -⟩ := hO17.all
  obtain ⟨⟨c20, c21, c22⟩, -⟩ := hO27.all
  obtain ⟨⟨c30, c31, c32⟩, -⟩ := hO37.all
  have H0 : Hid (OutAt w4 p0 a b c) := hO07
  clear hO07 hO17 hO27 hO37
  have H1 : Hid ((w4.cell? ⟨p1, 0, none⟩ = some (.bool o) ∧ w4.cell? ⟨p1, 1, none⟩ = some (.bool b)) ∧ w4.cell? ⟨p1, 2, none⟩ = some (.bool c)) := ⟨⟨c10, c11⟩, c12⟩
  go_upto_region 6 with fail
  clear H1 c10 c11 c12
  go_cut [74] from 46 to 75 (fun x W => x = .bool false ∧ W = w4)
  case first =>
    as_aux_lemma =>
      clear c30 c31 c32
      rcases c with _ | _
      · go_wp2
        go_meet
        case rel => exact ⟨by cases b <;> cases o <;> rfl, rfl⟩
      · go_wp2
        go_meet
        case rel => exact ⟨by cases b <;> cases o <;> rfl, rfl⟩
  case rest =>
    clear c20 c21 c22
    obtain ⟨rfl, hW⟩ := hcut
    obtain rfl := hW.symm
    go_upto_region 8 with fail
    go_cut [109] from 5 to 110 (fun x W => x = .bool false ∧ W = w4)
    case first =>
      as_aux_lemma =>
        rcases a with _ | _ <;> rcases b with _ | _ <;> rcases c with _ | _ <;> (go_wp2; go_meet; case rel => exact ⟨rfl, rfl⟩)
    case rest =>
      clear c30 c31 c32
      obtain ⟨rfl, hW⟩ := hcut
      obtain rfl := hW.symm
      go_wp2_with fail
      rcases a with _ | _
      · rcases b with _ | _
        · as_aux_lemma =>
            go_region_held (fun W => W.cell? ⟨p0, 0, none⟩ = some (.bool false) ∧ W.cell? ⟨p0, 1, none⟩ = some (.bool false) ∧ W.cell? ⟨p0, 2, none⟩ = some (.bool c)) (first | assumption | go_keep)
              (first
              | (go_at_call 14; refine (hi _).mono ?_; rintro e w5 ⟨rfl, hB5⟩; have hS := (out_keep hB5 H0.out (heap_lt H0.out)).all.1))
            all_goals (go_wp2; go_ret; exact ⟨by simp, HB7.out.drew.trans (hB5.mono HB7.out.size)⟩)
        · as_aux_lemma =>
            first
            | (go_region_with
                (go_at_call 14; refine (hi _).mono ?_; rintro e w5 ⟨rfl, hB5⟩; obtain ⟨d0, d1, d2⟩ := (out_keep hB5 H0.out (heap_lt H0.out)).all.1))
            | fail
            all_goals (go_wp2; go_ret; exact ⟨rfl, HB7.out.drew.trans (hB5.mono HB7.out.size)⟩)
      · as_aux_lemma =>
          first
          | (go_region_with
              (go_at_call 14; refine (hi _).mono ?_; rintro e w5 ⟨rfl, hB5⟩; obtain ⟨d0, d1, d2⟩ := (out_keep hB5 H0.out (heap_lt H0.out)).all.1))
          | fail
          all_goals (go_wp2; go_ret; exact ⟨rfl, HB7.out.drew.trans (hB5.mono HB7.out.size)⟩)
end Go.Proofs.Yteemfdbhcehfgaa.Tape
