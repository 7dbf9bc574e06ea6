/- The laws' own awake; the contracts of way's Most and Status. -/
import Derived.Test.YtmjogdhfndnbaaaWay2
import Derived.Test.YtmjogdhfndnbaaaSetOpen
import Derived.Deep.Cut
import Derived.Deep.RegionHeld
namespace Go.Proofs.Ytmjogdhfndnbaaa.Tape
open Go.ChangeShapes Go.WideShapes Go.ChangeAt Go.RowKit
set_option linter.unusedVariables false

set_option maxRecDepth 100000 in
set_option maxHeartbeats 1000000 in
theorem awake13_any (w : World) : Calls Try.prog 7 #[] w fun e w' => e = .returned (.bool true) ∧ Below w.heap.size w w' := by
  have hnm := name_any
  have hcy := cyclic_any
  have HN : Hid (∀ (c : Bool) (p : Nat) (w : World), Calls Try.prog 12 #[wayV c p] w fun e w' => e = .returned (.string (wayN c)) ∧ w' = w) := hnm
  have HC : Hid (∀ (c : Bool) (p : Nat) (w : World), Calls Try.prog 13 #[wayV c p] w fun e w' => e = .returned (.bool c) ∧ w' = w) := hcy
  clear hnm hcy
  go_enter Try.func7, Try.ntmps7
  go_wp2_with fail
  refine (usual_any true w).mono ?_
  rintro e w1 ⟨rfl, hB1⟩
  go_wp2_with fail
  refine (wnew_any true 8 300 16 600 600 12000 8000 4000 1200 100 4000 6000 w.heap.size w1 (by omega) (by omega) (by omega) (by omega) hB1.size).mono ?_
  rintro e w2 ⟨pa, hba, Ta, rfl, -, -, hB2⟩
  have hB02 := hB1.trans (below_le hB2 hB1.size)
  clear hB1 hB2
  go_wp2_with fail
  refine (usual_any false w2).mono ?_
  rintro e w3 ⟨rfl, hB3⟩
  have hB03 := hB02.trans (below_le hB3 hB02.size)
  go_wp2_with fail
  refine (wnew_any false 8 300 16 600 600 12000 8000 4000 1200 100 4000 6000 w.heap.size w3 (by omega) (by omega) (by omega) (by omega) hB03.size).mono ?_
  rintro e w4 ⟨pb, hbb, Tb, rfl, -, -, hB4⟩
  have hB04 := hB03.trans (below_le hB4 hB03.size)
  clear hB02 hB3 hB03 hB4
  go_wp2_with (first
    | (go_at_call 12; refine (HN.out _ _ _).mono ?_; rintro e w3 ⟨rfl, hw3⟩; obtain rfl := hw3.symm; clear hw3; simp only [wayN, Bool.false_eq_true, if_false, if_true])
    | (go_at_call 13; refine (HC.out _ _ _).mono ?_; rintro e w3 ⟨rfl, hw3⟩; obtain rfl := hw3.symm; clear hw3))
  go_ret
  exact ⟨rfl, hB04⟩

theorem ret_ints {k : IntKind} {a b c d : Int} (h1 : a = b) (h2 : c = d) : Ending.returned (.tuple #[.int k a, .int k c]) = .returned (.tuple #[.int k b, .int k d]) := by rw [h1, h2]

/-- How many messages wait at most; how many octets of more than one. -/
def mstN (c : Bool) (n1 m : Int) : Int := if c then (if m < n1 then m else n1) else (if m < 127 then m else 127)
def mstO (c : Bool) (n2 o : Int) : Int := if c then (if o < n2 then o else n2) else o

set_option maxRecDepth 100000 in
set_option maxHeartbeats 1000000 in
theorem most_any (c : Bool) (n1 n2 m o t0 t1 t2 t3 t4 t5 t6 t7 : Int) (w : World) :
    Calls Try.prog 17 #[setV c n1 n2 m o t0 t1 t2 t3 t4 t5 t6 t7] w fun e w' => e = .returned (.tuple #[.int .i64 (mstN c n1 m), .int .i64 (mstO c n2 o)]) ∧ Below w.heap.size w w' := by
  unfold setV
  obtain ⟨W, hW⟩ : ∃ W, W = w.alloc (.cells #[.bool c, .int .i64 n1, .int .i64 n2, .int .i64 m, .int .i64 o, .int .i64 t0, .int .i64 t1, .int .i64 t2, .int .i64 t3, .int .i64 t4, .int .i64 t5, .int .i64 t6, .int .i64 t7] 28) := ⟨_, rfl⟩
  have hBW : Below w.heap.size w W := by rw [hW]; exact (Below.refl _ _).alloc (Nat.le_refl _) _
  have hh : W.heap[w.heap.size]? = some (.cells #[.bool c, .int .i64 n1, .int .i64 n2, .int .i64 m, .int .i64 o, .int .i64 t0, .int .i64 t1, .int .i64 t2, .int .i64 t3, .int .i64 t4, .int .i64 t5, .int .i64 t6, .int .i64 t7] 28 (0, 0)) := by rw [hW]; exact heap_alloc_new w _
  have hk : ∀ k v, W.cell? ⟨w.heap.size, k, none⟩ = some v → W.drew.cell? ⟨w.heap.size, k, none⟩ = some v := fun k v h => h
  have c0 : W.cell? ⟨w.heap.size, 0, none⟩ = some (.bool c) := by simp [World.cell?, hh]
  have c1 := hk 1 (.int .i64 n1) (by simp [World.cell?, hh])
  have c2 := hk 2 (.int .i64 n2) (by simp [World.cell?, hh])
  have c3 := hk 3 (.int .i64 m) (by simp [World.cell?, hh])
  have c4 := hk 4 (.int .i64 o) (by simp [World.cell?, hh])
  have HB : Hid (Below w.heap.size w W.drew) := hBW.drew
  clear hBW hh hk
  cases c
  all_goals
    go_enter Try.func17, Try.ntmps17
    go_upto_region 1 with fail
    rw [← hW]
    clear hW
    go_wp2_with fail
    go_region_held (fun Y => Y.cell? ⟨w.heap.size, 1, none⟩ = some (.int .i64 n1) ∧ Y.cell? ⟨w.heap.size, 2, none⟩ = some (.int .i64 n2) ∧ Y.cell? ⟨w.heap.size, 3, none⟩ = some (.int .i64 m) ∧ Y.cell? ⟨w.heap.size, 4, none⟩ = some (.int .i64 o)) (exact ⟨c1, c2, c3, c4⟩) (fail)
    all_goals
      go_wp2
      all_goals
        go_ret2
        refine ⟨ret_ints ?_ ?_, HB.out⟩
        all_goals
          simp only [mstN, mstO, Bool.false_eq_true, if_false, if_true]
          repeat' split
          all_goals omega
end Go.Proofs.Ytmjogdhfndnbaaa.Tape
