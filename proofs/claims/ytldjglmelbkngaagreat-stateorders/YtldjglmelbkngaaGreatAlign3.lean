/- The contracts of an Align's comeNear, prove, End, Begin, quicken, Hurry. -/
import Derived.Test.YtldjglmelbkngaaGreatAlign1
import Derived.Deep.RegionHeld3
import Derived.Deep.MidRow
namespace Go.Proofs.YtldjglmelbkngaaGreat.Tape
open Go.ChangeShapes Go.WideShapes Go.ChangeAt Go.RowKit
set_option linter.unusedVariables false

set_option maxRecDepth 100000 in
set_option maxHeartbeats 1000000 in
theorem near_al (b c : Nat) (A : Al) (w : World) (h : AlignAt w b c A) : Calls Tryz.prog 77 #[.pointer (some ⟨b, 0, none⟩)] w fun e w' => e = .returned (.tuple #[]) ∧ AlignAt w' b c A.near ∧ Fr b c w w' := by
  have h1 := h.put (A' := { A with st := 2 }) 0 (.int .u8 2) rfl rfl rfl
  have HF1 : Hid (Fr b c w (w.setCell ⟨b, 0, none⟩ (.int .u8 2))) := (Fr.refl b c w).set 0 _
  have hst := stop_al b c { A with st := 2 } [0, 2, 4] 3 w.heap.size #[.int .i64 0, .int .i64 2, .int .i64 4] _ h1 (by simp [World.setCell]) rfl rfl (by omega)
  obtain ⟨⟨-, -, -, -, -, -, -, -, -, -, c14⟩, hz⟩ := h.all
  have z0 := hz 0
  have c0 := h.all.1.1
  clear h hz h1
  go_enter Tryz.func77, Tryz.ntmps77
  go_wp2_with (go_at_call 71; refine hst.mono ?_; rintro e w1 ⟨rfl, h1, hF1⟩)
  have hgo := start_al b c _ 3 (by omega) w1 h1
  have HF2 : Hid (Fr b c w w1) := HF1.out.trans hF1
  clear hst hF1 h1
  go_wp2_with (go_at_call 102; refine hgo.mono ?_; rintro e w2 ⟨rfl, h2, hF2⟩)
  refine bodyPost_end (results_none rfl _ _ _) rfl ?_
  exact ⟨rfl, h2, HF2.out.trans hF2⟩

set_option maxRecDepth 100000 in
set_option maxHeartbeats 1000000 in
theorem end_al (b c : Nat) (A : Al) (w : World) (h : AlignAt w b c A) : Calls Tryz.prog 61 #[.pointer (some ⟨b, 0, none⟩)] w fun e w' => e = .returned (.tuple #[]) ∧ AlignAt w' b c A.end_ ∧ Fr b c w w' := by
  have h1 := (h.put (A' := { A with st := 0 }) 0 (.int .u8 0) rfl rfl rfl).put (A' := { A with st := 0, their := false }) 2 (.bool false) rfl rfl rfl
  have HF1 : Hid (Fr b c w ((w.setCell ⟨b, 0, none⟩ (.int .u8 0)).setCell ⟨b, 2, none⟩ (.bool false))) := ((Fr.refl b c w).set 0 _).set 2 _
  have hst := stop_al b c { A with st := 0, their := false } [0, 2, 3, 4] 4 w.heap.size #[.int .i64 0, .int .i64 2, .int .i64 3, .int .i64 4] _ h1 (by simp [World.setCell]) rfl rfl (by omega)
  obtain ⟨⟨c0, -, c2, -, -, -, -, -, -, -, c14⟩, hz⟩ := h.all
  have z0 := hz 0
  have z2 := hz 2
  clear h hz h1
  go_enter Tryz.func61, Tryz.ntmps61
  go_wp2_with (go_at_call 71; refine hst.mono ?_; rintro e w1 ⟨rfl, h1, hF1⟩)
  refine bodyPost_end (results_none rfl _ _ _) rfl ?_
  exact ⟨rfl, h1, HF1.out.trans hF1⟩

set_option maxRecDepth 100000 in
set_option maxHeartbeats 1000000 in
theorem begin_al (b c : Nat) (A : Al) (w : World) (h : AlignAt w b c A) : Calls Tryz.prog 86 #[.pointer (some ⟨b, 0, none⟩)] w fun e w' => e = .returned (.tuple #[]) ∧ AlignAt w' b c A.begin_ ∧ Fr b c w w' := by
  have h1 := ((h.put (A' := { A with st := 1 }) 0 (.int .u8 1) rfl rfl rfl).put (A' := { A with st := 1, their := false }) 2 (.bool false) rfl rfl rfl).put (A' := { A with st := 1, their := false, tries := 0 }) 5 (.int .i64 0) rfl rfl rfl
  have HF1 : Hid (Fr b c w (((w.setCell ⟨b, 0, none⟩ (.int .u8 1)).setCell ⟨b, 2, none⟩ (.bool false)).setCell ⟨b, 5, none⟩ (.int .i64 0))) := (((Fr.refl b c w).set 0 _).set 2 _).set 5 _
  have hst := stop_al b c { A with st := 1, their := false, tries := 0 } [0, 3, 4] 3 w.heap.size #[.int .i64 0, .int .i64 3, .int .i64 4] _ h1 (by simp [World.setCell]) rfl rfl (by omega)
  obtain ⟨⟨c0, -, c2, -, -, c5, -, -, -, -, c14⟩, hz⟩ := h.all
  have z0 := hz 0
  have z2 := hz 2
  have z5 := hz 5
  clear h hz h1
  go_enter Tryz.func86, Tryz.ntmps86
  go_wp2_with (go_at_call 71; refine hst.mono ?_; rintro e w1 ⟨rfl, h1, hF1⟩)
  have hgo := start_al b c _ 2 (by omega) w1 h1
  have HF2 : Hid (Fr b c w w1) := HF1.out.trans hF1
  clear hst hF1 h1
  go_wp2_with (go_at_call 102; refine hgo.mono ?_; rintro e w2 ⟨rfl, h2, hF2⟩)
  refine bodyPost_end (results_none rfl _ _ _) rfl ?_
  exact ⟨rfl, h2, HF2.out.trans hF2⟩

/-- A Proof stored whole, under a name of its own. -/
def stP (p v : Value) : Sem Unit := Instr.storeAt 103 p v
theorem stP_def (p v : Value) : Instr.storeAt 103 p v = stP p v := rfl
def putP (w : World) (b : Nat) (h : Bool) (n t : Int) : World := ((w.setCell ⟨b, 3, none⟩ (.bool h)).setCell ⟨b, 4, none⟩ (.int .i64 n)).setCell ⟨b, 5, none⟩ (.int .i64 t)
theorem infoP : (Tryz.prog.info? 103).map (·.size) = some 3 := by kernel_rfl
theorem st_prf {w : World} {b c : Nat} {A : Al} (h : AlignAt w b c A) (hu : Bool) (n t : Int) : (stP (.pointer (some ⟨b, 3, none⟩)) (.agg #[.bool hu, .int .i64 n, .int .i64 t])).run Tryz.prog w = .ok () (putP w b hu n t) := by
  refine run_storeAt_mid (P := Tryz.prog) w b 3 103 #[.bool hu, .int .i64 n, .int .i64 t] (fun j hj => ?_) (by rw [infoP]; rfl) (by simp [Value.oneCell'])
  have hj' : j < 3 := hj
  refine ⟨?_, h.all.2 _⟩
  rw [Lib.cell_of_heap h.cells]
  have : j = 0 ∨ j = 1 ∨ j = 2 := by omega
  rcases this with rfl | rfl | rfl <;> rfl
theorem put_prf {w : World} {b c : Nat} {A : Al} (h : AlignAt w b c A) (hu : Bool) (n t : Int) : AlignAt (putP w b hu n t) b c { A with hur := hu, n := n, tries := t } ∧ Fr b c w (putP w b hu n t) :=
  ⟨((h.put (A' := { A with hur := hu }) 3 (.bool hu) rfl rfl rfl).put (A' := { A with hur := hu, n := n }) 4 (.int .i64 n) rfl rfl rfl).put (A' := { A with hur := hu, n := n, tries := t }) 5 (.int .i64 t) rfl rfl rfl, (((Fr.refl b c w).set 3 _).set 4 _).set 5 _⟩

attribute [local go_sem ↓] stP_def

set_option maxRecDepth 100000 in
set_option maxHeartbeats 1000000 in
theorem prove_al (b c : Nat) (A : Al) (w : World) (h : AlignAt w b c A) : Calls Tryz.prog 78 #[.pointer (some ⟨b, 0, none⟩)] w fun e w' => e = .returned (.tuple #[]) ∧ AlignAt w' b c A.prove ∧ Fr b c w w' := by
  obtain ⟨⟨c0, -⟩, hz⟩ := h.all
  have z0 := hz 0
  obtain ⟨W, hW⟩ : ∃ W, W = w.setCell ⟨b, 0, none⟩ (.int .u8 3) := ⟨_, rfl⟩
  have h1 : AlignAt W b c { A with st := 3 } := by rw [hW]; exact h.put (A' := { A with st := 3 }) 0 (.int .u8 3) rfl rfl rfl
  have hF1 : Fr b c w W.drew := by rw [hW]; exact ((Fr.refl b c w).set 0 _).drew
  have HF1 : Hid (Fr b c w W.drew) := hF1
  have hhu := hurries_any b c _ W.drew h1.drew
  have HR : Hid (Al.hurries { A with st := 3 } = A.hurries) := rfl
  rw [HR.out] at hhu
  have HP : Hid (A.prove = ({ A with st := 3, hur := A.hurries, n := 0 }.stop [0, 2, 3, 4]).go (if A.hurries = true then 0 else 4)) := rfl
  have h1d := h1.drew
  obtain ⟨⟨-, -, -, -, -, d5, -⟩, -⟩ := h1d.all
  clear h h1 hF1 hz
  obtain ⟨H, hH⟩ : ∃ H, A.hurries = H := ⟨_, rfl⟩
  have HA : Hid (AlignAt W.drew b c { A with st := 3 }) := h1d
  rw [hH] at hhu HP
  have HPP : Hid (A.prove = ({ A with st := 3, hur := H, n := 0 }.stop [0, 2, 3, 4]).go (if H = true then 0 else 4)) := HP
  generalize A.prove = R at *
  clear HP hH HR h1d
  obtain ⟨W2, hW2⟩ : ∃ W2, W2 = putP W.drew b H 0 A.tries := ⟨_, rfl⟩
  have hsp := st_prf HA.out H 0 A.tries
  have hpp := put_prf HA.out H 0 A.tries
  rw [← hW2] at hsp hpp
  have hC2 : W2.cell? ⟨b, 5, none⟩ = some (.int .i64 A.tries) := hpp.1.all.1.2.2.2.2.2.1
  have HPP2 : Hid (AlignAt W2 b c { A with st := 3, hur := H, n := 0 } ∧ Fr b c W.drew W2) := hpp
  obtain ⟨Z, hZ⟩ : ∃ Z, Z = A.tries := ⟨_, rfl⟩
  rw [← hZ] at hsp hC2 d5
  clear hW2 hpp hZ
  go_enter Tryz.func78, Tryz.ntmps78
  go_wp2_with fail
  rw [← hW]
  clear hW c0 z0
  go_region_held3 (fun Y => Y.cell? ⟨b, 5, none⟩ = some (.int .i64 Z)) (first | assumption | go_keep)
    (first
    | (go_at_call 75; refine hhu.mono ?_; rintro e w1 ⟨rfl, hw1⟩; obtain rfl := hw1.symm; clear hw1))
  have hst := stop_al b c _ [0, 2, 3, 4] 4 W2.heap.size #[.int .i64 0, .int .i64 2, .int .i64 3, .int .i64 4] W2 HPP2.out.1 rfl rfl rfl (by omega)
  have e14 := HPP2.out.1.all.1.2.2.2.2.2.2.2.2.2.2
  clear hhu hsp hC2 d5
  go_wp2_with (go_at_call 71; refine hst.mono ?_; rintro e w3 ⟨rfl, h3, hF3⟩; have e3 := h3.all.1.2.2.2.1; simp only [Al.stop] at e3; have HF3 : Hid (Fr b c w w3) := HF1.out.trans (HPP2.out.2.trans hF3); have H3 : Hid (AlignAt w3 b c _) := h3; clear hst e14 h3 hF3; cases H)
  · have hgo := start_al b c _ 4 (by omega) w3 H3.out
    go_wp2_with (go_at_call 102; refine hgo.mono ?_; rintro e w4 ⟨rfl, h4, hF4⟩)
    refine bodyPost_end (results_none rfl _ _ _) rfl ?_
    exact ⟨rfl, by rw [HPP.out]; exact h4, HF3.out.trans hF4⟩
  · have hgo := start_al b c _ 0 (by omega) w3 H3.out
    go_wp2_with (go_at_call 102; refine hgo.mono ?_; rintro e w4 ⟨rfl, h4, hF4⟩)
    refine bodyPost_end (results_none rfl _ _ _) rfl ?_
    exact ⟨rfl, by rw [HPP.out]; exact h4, HF3.out.trans hF4⟩

set_option maxRecDepth 100000 in
set_option maxHeartbeats 1000000 in
theorem quicken_al (b c : Nat) (A : Al) (was : Bool) (w : World) (h : AlignAt w b c A) : Calls Tryz.prog 79 #[.pointer (some ⟨b, 0, none⟩), .bool was] w fun e w' => e = .returned (.tuple #[]) ∧ AlignAt w' b c (A.quicken was) ∧ Fr b c w w' := by
  obtain ⟨⟨c0, -⟩, -⟩ := h.all
  have hhu := hurries_any b c A w h
  have hpr := prove_al b c A w h
  have HA : Hid (AlignAt w b c A) := h
  obtain ⟨H, hH⟩ : ∃ H, A.hurries = H := ⟨_, rfl⟩
  have HQ : Hid (A.quicken was = if A.st = 3 ∧ H = true ∧ was = false then A.prove else A) := by show _ = _; rw [← hH]; rfl
  rw [hH] at hhu
  clear h hH
  generalize A.quicken was = R at *
  by_cases hs : A.st = 3
  · rw [hs] at c0
    rw [show Hid (R = if A.st = 3 ∧ H = true ∧ was = false then A.prove else A) = (R = if A.st = 3 ∧ H = true ∧ was = false then A.prove else A) from rfl, hs] at HQ
    have HQ2 : Hid (R = if (3 : Int) = 3 ∧ H = true ∧ was = false then A.prove else A) := HQ
    clear HQ hs
    cases H
    · have HR : Hid (R = A) := by have := HQ2.out; rwa [if_neg (by simp)] at this
      clear HQ2 hpr
      go_enter Tryz.func79, Tryz.ntmps79
      go_wp2_with (go_at_call 75; refine hhu.mono ?_; rintro e w1 ⟨rfl, hw1⟩; obtain rfl := hw1.symm; clear hw1)
      refine bodyPost_end (results_none rfl _ _ _) rfl ?_
      exact ⟨rfl, by rw [HR.out]; exact HA.out, Fr.refl _ _ _⟩
    · cases was
      · have HR : Hid (R = A.prove) := by have := HQ2.out; rwa [if_pos (by simp)] at this
        clear HQ2
        go_enter Tryz.func79, Tryz.ntmps79
        go_wp2_with (go_at_call 75; refine hhu.mono ?_; rintro e w1 ⟨rfl, hw1⟩; obtain rfl := hw1.symm; clear hw1)
        go_wp2_with (go_at_call 78; refine hpr.mono ?_; rintro e w1 ⟨rfl, h1, hF1⟩)
        refine bodyPost_end (results_none rfl _ _ _) rfl ?_
        exact ⟨rfl, by rw [HR.out]; exact h1, hF1⟩
      · have HR : Hid (R = A) := by have := HQ2.out; rwa [if_neg (by simp)] at this
        clear HQ2 hpr
        go_enter Tryz.func79, Tryz.ntmps79
        go_wp2_with (go_at_call 75; refine hhu.mono ?_; rintro e w1 ⟨rfl, hw1⟩; obtain rfl := hw1.symm; clear hw1)
        refine bodyPost_end (results_none rfl _ _ _) rfl ?_
        exact ⟨rfl, by rw [HR.out]; exact HA.out, Fr.refl _ _ _⟩
  · have HR : Hid (R = A) := by have := HQ.out; rwa [if_neg (fun e => hs e.1)] at this
    have hs2 : (A.st == 3) = false := by rw [beq_eq_false_iff_ne]; exact hs
    generalize A.st = st at *
    clear HQ hpr
    go_enter Tryz.func79, Tryz.ntmps79
    go_wp2
    refine bodyPost_end (results_none rfl _ _ _) rfl ?_
    exact ⟨rfl, by rw [HR.out]; exact HA.out, Fr.refl _ _ _⟩

set_option maxRecDepth 100000 in
set_option maxHeartbeats 1000000 in
theorem hurry_al (b c : Nat) (A : Al) (on : Bool) (w : World) (h : AlignAt w b c A) : Calls Tryz.prog 52 #[.pointer (some ⟨b, 0, none⟩), .bool on] w fun e w' => e = .returned (.tuple #[]) ∧ AlignAt w' b c (A.hurry on) ∧ Fr b c w w' := by
  obtain ⟨⟨-, c1, -⟩, hz⟩ := h.all
  have z1 := hz 1
  have hhu := hurries_any b c A w h
  have h1 := h.put (A' := { A with own := on }) 1 (.bool on) rfl rfl rfl
  have HF1 : Hid (Fr b c w (w.setCell ⟨b, 1, none⟩ (.bool on))) := (Fr.refl b c w).set 1 _
  have hqu := quicken_al b c _ A.hurries _ h1
  rw [show ({ A with own := on } : Al).quicken A.hurries = A.hurry on from rfl] at hqu
  generalize A.hurries = H at *
  generalize A.hurry on = R at *
  clear h hz h1
  go_enter Tryz.func52, Tryz.ntmps52
  go_wp2_with (go_at_call 75; refine hhu.mono ?_; rintro e w1 ⟨rfl, hw1⟩; obtain rfl := hw1.symm; clear hw1)
  go_wp2_with (go_at_call 79; refine hqu.mono ?_; rintro e w1 ⟨rfl, h1, hF1⟩)
  refine bodyPost_end (results_none rfl _ _ _) rfl ?_
  exact ⟨rfl, h1, HF1.out.trans hF1⟩
end Go.Proofs.YtldjglmelbkngaaGreat.Tape
