/- The contract of state.New. -/
import Derived.Test.YtldjglmelbkngaaGreatState16
namespace Go.Proofs.YtldjglmelbkngaaGreat.Tape
open Go.ChangeShapes Go.WideShapes Go.ChangeAt Go.RowKit
set_option linter.unusedVariables false

/-- A setup, and its timers, loaded whole, under names of their own. -/
def ldQ (v : Value) : Sem Value := Instr.loadAt 28 v
theorem ldQ_def (v : Value) : Instr.loadAt 28 v = ldQ v := rfl
def ldT8 (v : Value) : Sem Value := Instr.loadAt 26 v
theorem ldT8_def (v : Value) : Instr.loadAt 26 v = ldT8 v := rfl
theorem infoT8 : (Tryz.prog.info? 26).map (·.size) = some 8 := by kernel_rfl

/-- A new State of any setup. -/
def stN (c : Bool) (n1 n2 m o : Int) (t : Nat → Int) : St := ⟨0, al0 t (List.replicate 8 0), ja0 t (List.replicate 8 0), wt0 c n1 n2, ⟨m, o, 0, [], []⟩, false, false, false, lk0, [], 0⟩

attribute [local go_sem ↓] ldQ_def ldT8_def

set_option maxRecDepth 100000 in
set_option maxHeartbeats 4000000 in
theorem stnew_any (c : Bool) (n1 n2 m o : Int) (t : Nat → Int) (w : World) (hm : m ≤ 1048576) (ho : o ≤ 1099511627776) (h1 : 1 ≤ n1) (h2 : 1 ≤ n2) (ht : ∀ k, 1 ≤ t k ∧ t k ≤ 4294967296) :
    Calls Tryz.prog 16 #[.agg #[.bool c, .int .i64 n1, .int .i64 n2, .int .i64 m, .int .i64 o, .int .i64 (t 0), .int .i64 (t 1), .int .i64 (t 2), .int .i64 (t 3), .int .i64 (t 4), .int .i64 (t 5), .int .i64 (t 6), .int .i64 (t 7)]] w fun e w' => ∃ P T, e = .returned (.pointer (some ⟨P.b, 0, none⟩)) ∧ P.cy = c ∧ P.B = w.heap.size ∧ StAt w' P 1000 T (stN c n1 n2 m o t) ∧ Below w.heap.size w w' := by
  obtain ⟨W, hW⟩ : ∃ W, W = (w.alloc (.cells #[.bool c, .int .i64 n1, .int .i64 n2, .int .i64 m, .int .i64 o, .int .i64 (t 0), .int .i64 (t 1), .int .i64 (t 2), .int .i64 (t 3), .int .i64 (t 4), .int .i64 (t 5), .int .i64 (t 6), .int .i64 (t 7)] 28)).alloc (.cells #[.int .i64 0, .int .i64 0, .int .i64 0, .int .i64 0, .int .i64 0, .int .i64 0, .int .i64 0, .int .i64 0] 82) := ⟨_, rfl⟩
  have hck0 := clock_new (w.alloc (.cells #[.bool c, .int .i64 n1, .int .i64 n2, .int .i64 m, .int .i64 o, .int .i64 (t 0), .int .i64 (t 1), .int .i64 (t 2), .int .i64 (t 3), .int .i64 (t 4), .int .i64 (t 5), .int .i64 (t 6), .int .i64 (t 7)] 28))
  have hck : ClockAt W (w.heap.size + 1) (List.replicate 8 0) := by rw [hW]; simpa using hck0
  have hB : Below w.heap.size w W := by rw [hW]; exact ((Below.refl _ _).alloc (Nat.le_refl _) _).alloc (by simp) _
  have hset : W.heap[w.heap.size]? = some (.cells #[.bool c, .int .i64 n1, .int .i64 n2, .int .i64 m, .int .i64 o, .int .i64 (t 0), .int .i64 (t 1), .int .i64 (t 2), .int .i64 (t 3), .int .i64 (t 4), .int .i64 (t 5), .int .i64 (t 6), .int .i64 (t 7)] 28 (0, 0)) := by rw [hW]; exact heap_more (heap_alloc_new w _) _
  have hsz : W.heap.size = w.heap.size + 2 := by rw [hW]; simp
  have HS : Hid (∀ Y, Below W.heap.size W Y → (ldQ (.pointer (some ⟨w.heap.size, 0, none⟩))).run Tryz.prog Y = .ok (.agg #[.bool c, .int .i64 n1, .int .i64 n2, .int .i64 m, .int .i64 o, .int .i64 (t 0), .int .i64 (t 1), .int .i64 (t 2), .int .i64 (t 3), .int .i64 (t 4), .int .i64 (t 5), .int .i64 (t 6), .int .i64 (t 7)]) Y ∧ (ldT8 (.pointer (some ⟨w.heap.size, 5, none⟩))).run Tryz.prog Y = .ok (.agg #[.int .i64 (t 0), .int .i64 (t 1), .int .i64 (t 2), .int .i64 (t 3), .int .i64 (t 4), .int .i64 (t 5), .int .i64 (t 6), .int .i64 (t 7)]) Y) := fun Y hY => by
    have hh := (hY.block _ (heap_lt hset)).trans hset
    refine ⟨?_, ?_⟩
    · show (Instr.loadAt 28 (.pointer (some ⟨w.heap.size, 0, none⟩))).run Tryz.prog Y = _
      have := run_loadAt_mid (P := Tryz.prog) Y w.heap.size 0 28 _ _ (range_all hh) Tryz.underlying28 rfl (by rw [infoQ]; rfl)
      simpa using this
    · show (Instr.loadAt 26 (.pointer (some ⟨w.heap.size, 5, none⟩))).run Tryz.prog Y = _
      exact run_loadAt_mid (P := Tryz.prog) Y w.heap.size 5 26 [.int .i64 (t 0), .int .i64 (t 1), .int .i64 (t 2), .int .i64 (t 3), .int .i64 (t 4), .int .i64 (t 5), .int .i64 (t 6), .int .i64 (t 7)] _ (World.rangeAt_of_block hh 5 8) Tryz.underlying26 rfl (by rw [infoT8]; rfl)
  have hD : Below W.heap.size W W.drew := (Below.refl _ _).drew
  have hS := HS.out _ hD
  have hal := alnew_any (w.heap.size + 1) c n1 n2 m o t (List.replicate 8 0) W.drew (hck.keep hD) ht
  have HC : Hid (ClockAt W (w.heap.size + 1) (List.replicate 8 0) ∧ Below w.heap.size w W ∧ W.heap.size = w.heap.size + 2) := ⟨hck, hB, hsz⟩
  clear hck0 hck hB hset hsz hD
  go_enter Tryz.func16, Tryz.ntmps16
  go_upto_region 2 with fail
  rw [← hW]
  clear hW
  go_region_held (fun Y => (ldQ (.pointer (some ⟨w.heap.size, 0, none⟩))).run Tryz.prog Y = .ok (.agg #[.bool c, .int .i64 n1, .int .i64 n2, .int .i64 m, .int .i64 o, .int .i64 (t 0), .int .i64 (t 1), .int .i64 (t 2), .int .i64 (t 3), .int .i64 (t 4), .int .i64 (t 5), .int .i64 (t 6), .int .i64 (t 7)]) Y ∧ (ldT8 (.pointer (some ⟨w.heap.size, 5, none⟩))).run Tryz.prog Y = .ok (.agg #[.int .i64 (t 0), .int .i64 (t 1), .int .i64 (t 2), .int .i64 (t 3), .int .i64 (t 4), .int .i64 (t 5), .int .i64 (t 6), .int .i64 (t 7)]) Y) (first | assumption | exact HS.out _ (hb5.alloc (Nat.le_trans (Nat.le_refl _) hb5.size) _))
    (first
    | (go_at_call 37; refine hal.mono ?_; rintro e w3 ⟨a, rfl, ha, hA3, hB3⟩; have hb3 : Below W.heap.size W w3 := ((Below.refl _ _).drew).trans (below_le hB3 (Nat.le_refl _)); have hS3 := HS.out _ hb3; have hja := janew_any (w.heap.size + 1) c n1 n2 m o t (List.replicate 8 0) w3 hA3.clock ht)
    | (go_at_call 38; refine hja.mono ?_; rintro e w4 ⟨j, rfl, hj, hJ4, hB4⟩; have hb4 : Below W.heap.size W w4 := hb3.trans (below_le hB4 hb3.size); have hS4 := HS.out _ hb4; have hA4 := hA3.keep hB4; have hwn := wnew_any c n1 n2 m o (t 0) (t 1) (t 2) (t 3) (t 4) (t 5) (t 6) (t 7) w.heap.size w4 hm ho h1 h2 (Nat.le_trans HC.out.2.1.size hb4.size))
    | (go_at_call 39; refine hwn.mono ?_; rintro e w5 ⟨p, hb, T0, he, hW5, hT5, hB5⟩; rw [wayV_eq] at he; subst he; have hb5 : Below W.heap.size W w5 := hb4.trans (below_le hB5 hb4.size); have hS5 := HS.out _ hb5; have hA5 := hA4.keep hB5; have hJ5 := hJ4.keep hB5))
  all_goals
    have hs2 := HC.out.2.2
    have hs3 := hb3.size
    have hs4 := hb4.size
    have hs5 := hb5.size
    have hBn : Below w5.heap.size w5 (w5.alloc (.cells (staC ⟨w5.heap.size, w.heap.size + 1, a, j, p, hb, w.heap.size, c⟩ (stN c n1 n2 m o t) (.slice none 0 0)).toArray 46)) := (Below.refl _ _).alloc (Nat.le_refl _) _
    have HI : Hid (StIn (w5.alloc (.cells (staC ⟨w5.heap.size, w.heap.size + 1, a, j, p, hb, w.heap.size, c⟩ (stN c n1 n2 m o t) (.slice none 0 0)).toArray 46)) ⟨w5.heap.size, w.heap.size + 1, a, j, p, hb, w.heap.size, c⟩ T0 (.slice none 0 0) (stN c n1 n2 m o t)) := ⟨heap_alloc_new w5 _, hA5.keep hBn, hJ5.keep hBn, hW5.below hBn, by cases c <;> rfl, TRow.nil _, ⟨by show w.heap.size ≤ w5.heap.size; omega, by show w.heap.size ≤ w.heap.size + 1; omega, by show w.heap.size ≤ a; have : W.drew.heap.size = W.heap.size := rfl; omega, by show w.heap.size ≤ j; omega⟩, fun g e => by simp [Value.ownBlock] at e⟩
    have HBn : Hid (Below w.heap.size w (w5.alloc (.cells (staC ⟨w5.heap.size, w.heap.size + 1, a, j, p, hb, w.heap.size, c⟩ (stN c n1 n2 m o t) (.slice none 0 0)).toArray 46))) := (HC.out.2.1.trans (below_le hb5 HC.out.2.1.size)).alloc (Nat.le_trans HC.out.2.1.size hb5.size) _
    clear hs2 hs3 hs4 hs5 hBn
    go_wp2
    go_ret
    exact ⟨⟨w5.heap.size, w.heap.size + 1, a, j, p, hb, w.heap.size, c⟩, _, rfl, rfl, rfl, ⟨⟨by show 0 + 1000 ≤ 1000; omega, by show (0 : Int) ≤ 0 ∧ (0 : Int) + 1000 ≤ 1000; decide, by show 0 + 1000 ≤ 1000; omega, by show 0 ≤ 255; decide, by show (0 : Int) ≤ 0 ∧ (0 : Int) + 1000 ≤ 1000; decide, by show (0 : Int) ≤ 0 ∧ (0 : Int) + 1000 ≤ 1000; decide, by show (0 : Int) ≤ 0 ∧ (0 : Int) ≤ 3; decide⟩, T0, _, rfl, HI.out⟩, HBn.out⟩
end Go.Proofs.YtldjglmelbkngaaGreat.Tape
