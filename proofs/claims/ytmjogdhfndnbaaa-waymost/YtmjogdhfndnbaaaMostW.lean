/- WayMost's walk. -/
import Derived.Test.YtmjogdhfndnbaaaWay3
namespace Go.Proofs.Ytmjogdhfndnbaaa.Tape
open Go.ChangeShapes Go.WideShapes Go.ChangeAt Go.RowKit
set_option linter.unusedVariables false

/-- A setup that is loaded whole, under a name of its own. -/
def ldSt (v : Value) : Sem Value := Instr.loadAt 28 v
theorem ldSt_def (v : Value) : Instr.loadAt 28 v = ldSt v := rfl
theorem info28 : (Try.prog.info? 28).map (·.size) = some 13 := by kernel_rfl
theorem ld_setup {w : World} {B : Nat} {cs : Array Value} (h : w.heap[B]? = some (.cells cs 28 (0, 0))) (hs : cs.size = 13) : (ldSt (.pointer (some ⟨B, 0, none⟩))).run Try.prog w = .ok (.agg cs) w := by
  show (Instr.loadAt 28 (.pointer (some ⟨B, 0, none⟩))).run Try.prog w = .ok (.agg cs) w
  have := run_loadAt_mid (P := Try.prog) w B 0 28 cs.toList _ (range_all h) Try.underlying28 rfl (by rw [info28]; simp [hs])
  simpa using this

attribute [local go_sem ↓] ldSt_def

set_option maxRecDepth 100000 in
set_option maxHeartbeats 1000000 in
theorem most_walk (v : Value) (w : World) (hs : IsSetup w v) :
    Calls Try.prog 4 #[v] w fun e w' => e = .returned (.bool true) ∧ Below w.heap.size w w' := by
  obtain ⟨c, n1, n2, m, o, t0, t1, t2, t3, t4, t5, t6, t7, rfl⟩ := hs
  obtain ⟨W, hW⟩ : ∃ W, W = w.alloc (.cells #[.bool c, .int .i64 n1, .int .i64 n2, .int .i64 m, .int .i64 o, .int .i64 t0, .int .i64 t1, .int .i64 t2, .int .i64 t3, .int .i64 t4, .int .i64 t5, .int .i64 t6, .int .i64 t7] 28) := ⟨_, rfl⟩
  have hBW : Below w.heap.size w W := by rw [hW]; exact (Below.refl _ _).alloc (Nat.le_refl _) _
  have hh : W.heap[w.heap.size]? = some (.cells #[.bool c, .int .i64 n1, .int .i64 n2, .int .i64 m, .int .i64 o, .int .i64 t0, .int .i64 t1, .int .i64 t2, .int .i64 t3, .int .i64 t4, .int .i64 t5, .int .i64 t6, .int .i64 t7] 28 (0, 0)) := by rw [hW]; exact heap_alloc_new w _
  have hld := ld_setup hh rfl
  have hmo := most_any c n1 n2 m o t0 t1 t2 t3 t4 t5 t6 t7 W
  unfold setV at hmo
  have HB : Hid (Below w.heap.size w W) := hBW
  have HH : Hid (W.heap[w.heap.size]? = some (.cells #[.bool c, .int .i64 n1, .int .i64 n2, .int .i64 m, .int .i64 o, .int .i64 t0, .int .i64 t1, .int .i64 t2, .int .i64 t3, .int .i64 t4, .int .i64 t5, .int .i64 t6, .int .i64 t7] 28 (0, 0))) := hh
  clear hBW hh
  go_enter Try.func4, Try.ntmps4
  go_upto_region 1 with fail
  rw [← hW]
  clear hW
  go_wp2_with fail
  refine hmo.mono ?_
  rintro e w1 ⟨rfl, hB1⟩
  have hh1 := (hB1.block _ (heap_lt HH.out)).trans HH.out
  have c0 : w1.cell? ⟨w.heap.size, 0, none⟩ = some (.bool c) := by simp [World.cell?, hh1]
  have c1 : w1.cell? ⟨w.heap.size, 1, none⟩ = some (.int .i64 n1) := by simp [World.cell?, hh1]
  have c2 : w1.cell? ⟨w.heap.size, 2, none⟩ = some (.int .i64 n2) := by simp [World.cell?, hh1]
  have c3 : w1.cell? ⟨w.heap.size, 3, none⟩ = some (.int .i64 m) := by simp [World.cell?, hh1]
  have c4 : w1.cell? ⟨w.heap.size, 4, none⟩ = some (.int .i64 o) := by simp [World.cell?, hh1]
  have HB1 : Hid (Below w.heap.size w w1) := HB.out.trans (below_le hB1 HB.out.size)
  obtain ⟨r, hr⟩ : ∃ r, r = mstN c n1 m := ⟨_, rfl⟩
  obtain ⟨z, hz⟩ : ∃ z, z = mstO c n2 o := ⟨_, rfl⟩
  rw [← hr, ← hz]
  have HA : Hid (Calls Try.prog 7 #[] w1 fun e w' => e = .returned (.bool true) ∧ Below w1.heap.size w1 w') := awake13_any w1
  clear hmo hB1 hh1 hld
  cases c
  · by_cases h1 : 127 < m
    · have hr' : r = 127 := by rw [hr]; unfold mstN; simp; omega
      have hz' : z = o := by rw [hz]; rfl
      subst hr'
      subst hz'
      clear hr hz
      go_wp2_with (go_at_call 7; refine HA.out.mono ?_; rintro e w2 ⟨rfl, hB2⟩)
      go_ret
      exact ⟨rfl, HB1.out.trans (below_le hB2 HB1.out.size)⟩
    · have hr' : r = m := by rw [hr]; unfold mstN; simp; omega
      have hz' : z = o := by rw [hz]; rfl
      subst hr'
      subst hz'
      clear hr hz
      go_wp2_with (go_at_call 7; refine HA.out.mono ?_; rintro e w2 ⟨rfl, hB2⟩)
      go_ret
      exact ⟨rfl, HB1.out.trans (below_le hB2 HB1.out.size)⟩
  · by_cases h1 : n1 < m
    · have hr' : r = n1 := by rw [hr]; unfold mstN; simp; omega
      by_cases h2 : n2 < o
      · have hz' : z = n2 := by rw [hz]; unfold mstO; simp; omega
        subst hr'
        subst hz'
        clear hr hz
        go_wp2_with (go_at_call 7; refine HA.out.mono ?_; rintro e w2 ⟨rfl, hB2⟩)
        go_ret
        exact ⟨rfl, HB1.out.trans (below_le hB2 HB1.out.size)⟩
      · have hz' : z = o := by rw [hz]; unfold mstO; simp; omega
        subst hr'
        subst hz'
        clear hr hz
        go_wp2_with (go_at_call 7; refine HA.out.mono ?_; rintro e w2 ⟨rfl, hB2⟩)
        go_ret
        exact ⟨rfl, HB1.out.trans (below_le hB2 HB1.out.size)⟩
    · have hr' : r = m := by rw [hr]; unfold mstN; simp; omega
      by_cases h2 : n2 < o
      · have hz' : z = n2 := by rw [hz]; unfold mstO; simp; omega
        subst hr'
        subst hz'
        clear hr hz
        go_wp2_with (go_at_call 7; refine HA.out.mono ?_; rintro e w2 ⟨rfl, hB2⟩)
        go_ret
        exact ⟨rfl, HB1.out.trans (below_le hB2 HB1.out.size)⟩
      · have hz' : z = o := by rw [hz]; unfold mstO; simp; omega
        subst hr'
        subst hz'
        clear hr hz
        go_wp2_with (go_at_call 7; refine HA.out.mono ?_; rintro e w2 ⟨rfl, hB2⟩)
        go_ret
        exact ⟨rfl, HB1.out.trans (below_le hB2 HB1.out.size)⟩
end Go.Proofs.Ytmjogdhfndnbaaa.Tape
