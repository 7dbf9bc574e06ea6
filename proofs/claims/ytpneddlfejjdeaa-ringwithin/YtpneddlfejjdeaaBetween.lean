/- The contract of ring.Between: a new slice of all numbers from the first on up to the last one, going round. -/
import Derived.RangeFuncBox
import Derived.RangeFuncNested
import Derived.RangeFuncBound
import Derived.RangeFuncCalls
import Derived.RangeFuncLeaves
import Derived.Shelf.Abstract
import Derived.Shelf.RegionOpen
import Derived.WalkKit
import Derived.OwnWalkIn
import Derived.TacticsInMore
import Derived.LoopNIn
import Derived.LoopIn
import Derived.Maps.AppendAt
import Derived.Deep.QuietTactic
import Derived.BigQuiet
import Derived.Test.YtpneddlfejjdeaaRing
namespace Go.Proofs.Ytpneddlfejjdeaa.Ring
open Go.RowKit Go.Shelf

attribute [local go_sem] Oper.semAt_some

/-- The first k numbers from a on. -/
def upto (a : Int) (k : Nat) : List Int := (List.range k).map fun (i : Nat) => (a + i) % 128
theorem upto_succ (a : Int) (k : Nat) : upto a (k + 1) = upto a k ++ [(a + k) % 128] := by simp [upto, List.range_succ]
theorem upto_len (a : Int) (k : Nat) : (upto a k).length = k := by simp [upto]
/-- How many numbers Between tells. -/
def many (a b : Int) : Nat := ((b - a) % 128).toNat + 1
theorem many_int (a b : Int) : (many a b : Int) = (b - a) % 128 + 1 ∧ many a b ≤ 128 := by unfold many; omega

set_option maxRecDepth 100000 in
set_option maxHeartbeats 1000000 in
theorem iter_in (l B1 B2 n₀ : Nat) (n : Nat) (hn : 1 ≤ n) (a b : Int) (a0 : 0 ≤ a) (a1 : a ≤ 255) (b0 : 0 ≤ b) (b1 : b ≤ 255) (J Jx : List Int → World → Prop)
    (hJ : ∀ s A m, J s A → J s (A.drewN m))
    (hY : ∀ pre x W, J pre W → pre.length < many a b → YieldAt Fence.wide (n - 1) Try.prog l #[.int .u8 x] W fun e W' =>
      (e = .returned (.bool true) ∧ J (pre ++ [x]) W' ∧ Below n₀ W W') ∨ (e = .returned (.bool false) ∧ Jx (pre ++ [x]) W'))
    (W : World) (hB1 : W.cell? ⟨B1, 0, none⟩ = some (.int .u8 a)) (hB2 : W.cell? ⟨B2, 0, none⟩ = some (.int .u8 b)) (h0 : J [] W) :
    CallsIn Fence.wide n Try.prog 38 #[.func (.yield l) #[] #[], .pointer (some ⟨B1, 0, none⟩), .pointer (some ⟨B2, 0, none⟩)] W fun e W' => (∃ v, e = .returned v) ∧
      ((∃ ys, ys = upto a (many a b) ∧ J ys W') ∨ (∃ pre, True ∧ Jx pre W')) := by
  refine callsIn_of_wp Try.func38 rfl trivial ?_ rfl
  simp only [Try.ntmps38, List.size_toArray, List.length_cons, List.length_nil, Nat.reduceAdd, Nat.reduceSub, Array.replicate_succ, Array.replicate_zero, List.push_toArray, List.append_toArray, List.nil_append, List.cons_append]
  gi_wp2
  refine wpIn_wide.2 ?_
  go_quiet ((go_at_call 13; exact Calls.quiet_of_same (at_any _ _)))
  gi_wp2
  have h0' := hJ _ _ nq h0
  gi_loopw [4] (fun v wr => ∃ k : Nat, (k : Int) ≤ (b - a) % 128 ∧ v = .int .u8 ((a + k) % 128) ∧ J (upto a k) wr) (fun v _ => ((b - intOf v) % 128).toNat)
  case atStart => exact ⟨0, by omega, by simp, h0'⟩
  case round =>
    obtain ⟨k, hk, rfl, hJs⟩ := hrel
    have hm : (b - a) % 128 < 128 := by omega
    obtain ⟨fn, tmps, assign, body, hy, hR⟩ := hY (upto a k) ((a + k) % 128) wr hJs (by rw [upto_len]; unfold many; omega)
    gi_wp2
    refine hR.mono ?_
    rintro e W3 (⟨rfl, hJ3, hk3⟩ | ⟨rfl, hJx3⟩)
    · by_cases hlt : (k : Int) < (b - a) % 128
      · have ht : ((a + k) % 128 != b % 128) = true := by rw [bne_iff_ne]; omega
        gi_wp2_with (refine ⟨trivial, ?_⟩; gi_at_call 14; refine (callsIn_wide.2 (next_any _ (by omega) (by omega) _)).mono ?_; rintro e w' ⟨rfl, rfl⟩)
        go_roundw
        case rel => exact ⟨k + 1, by omega, by go_num, by rw [upto_succ]; exact hJ3⟩
        case measure => simp [intOf]; omega
      · have ht : ((a + k) % 128 != b % 128) = false := by rw [bne_eq_false_iff_eq]; omega
        gi_wp2
        go_end0
        refine ⟨⟨_, rfl⟩, .inl ⟨_, ?_, hJ3⟩⟩
        rw [show many a b = k + 1 from by unfold many; omega, upto_succ]
    · gi_wp2
      go_end0
      exact ⟨⟨_, rfl⟩, .inr ⟨_, trivial, hJx3⟩⟩

set_option maxHeartbeats 1000000 in
theorem walk_in (n : Nat) (a b : Int) (w : World) :
    CallsIn Fence.wide n Try.prog 33 #[.int .u8 a, .int .u8 b] w fun e w' => e = .returned (.func (.func 38) #[] #[.pointer (some ⟨w.heap.size, 0, none⟩), .pointer (some ⟨w.heap.size + 1, 0, none⟩)]) ∧ w' = (w.alloc (.cells #[.int .u8 a] 5)).alloc (.cells #[.int .u8 b] 5) := by
  refine callsIn_of_wp Try.func33 rfl trivial ?_ rfl
  simp only [Try.ntmps33, List.size_toArray, List.length_cons, List.length_nil, Nat.reduceAdd, Nat.reduceSub, Array.replicate_succ, Array.replicate_zero, List.push_toArray, List.append_toArray, List.nil_append, List.cons_append]
  gi_wp2
  go_ret
  exact ⟨rfl, rfl⟩

theorem walk_stops (n : Nat) (hn : 1 ≤ n) (B1 B2 n₀ : Nat) (a b : Int) (a0 : 0 ≤ a) (a1 : a ≤ 255) (b0 : 0 ≤ b) (b1 : b ≤ 255) (w : World) (h1 : B1 < w.heap.size) (h2 : B2 < w.heap.size)
    (c1 : w.cell? ⟨B1, 0, none⟩ = some (.int .u8 a)) (c2 : w.cell? ⟨B2, 0, none⟩ = some (.int .u8 b)) :
    SeqStopsK Fence.wide n Try.prog 38 #[.pointer (some ⟨B1, 0, none⟩), .pointer (some ⟨B2, 0, none⟩)] (fun x : Int => #[Value.int .u8 x]) (Below n₀) (fun ys => ys = upto a (many a b)) (fun _ => True) (many a b) w := fun l J Jx W hW hJ _ hY h0 =>
  iter_in l B1 B2 n₀ n hn a b a0 a1 b0 b1 J Jx (fun s A m hs => by
    exact hJ s A (A.drewN m) none hs ⟨rfl, rfl, rfl, Nat.le_refl _, fun _ _ _ => rfl⟩ (by simp)) hY W ((hW.cell (p := ⟨B1, 0, none⟩) h1).trans c1) ((hW.cell (p := ⟨B2, 0, none⟩) h2).trans c2) h0

theorem info5 : (Try.prog.info? 5).map (fun i => (i.zero, i.size, i.bytes)) = some (some (.int .u8 0), 1, 1) := by kernel_rfl

set_option maxRecDepth 100000 in
set_option maxHeartbeats 2000000 in
theorem between_in (a b : Int) (a0 : 0 ≤ a) (a1 : a ≤ 255) (b0 : 0 ≤ b) (b1 : b ≤ 255) (w : World) :
    CallsIn Fence.wide 5 Try.prog 18 #[.int .u8 a, .int .u8 b] w fun e W' => ∃ v, e = .returned v ∧ W'.ownsRow w.heap.size 5 1 v (many a b) ((upto a (many a b)).map (Value.int .u8)) ∧ Below w.heap.size w W' := by
  obtain ⟨i0, hi, hz0, hz1, hz2⟩ := info_parts info5
  refine callsIn_of_wp_marks Try.func18 rfl trivial ?_ rfl
  simp only [Try.ntmps18, List.size_toArray, List.length_cons, List.length_nil, Nat.reduceAdd, Nat.reduceSub, Array.replicate_succ, Array.replicate_zero, List.push_toArray, List.append_toArray, List.nil_append, List.cons_append]
  gi_wp2_with (first | (refine ⟨trivial, ?_⟩; gi_at_call 16; refine (callsIn_wide.2 (gap_any _ _ (by omega) (by omega) (by omega) (by omega) _)).mono ?_; rintro e w' ⟨rfl, hw'⟩; obtain rfl := hw'.symm; clear hw') | (gi_at_make; refine wpListIn_make_own _ rfl _ _ 28 rfl w.heap.size 5 i0 (.int .u8 0) 1 Try.underlying28 hi hz0 hz1 _ _ _ (many a b) rfl rfl (by have := many_int a b; omega) (by have := many_int a b; rw [hz2]; omega) (by have := many_int a b; unfold maxLen; omega) (Nat.le_refl _) ?_; intro w1 hown hgrow) | (refine ⟨trivial, ?_⟩; gi_at_call 33; refine (walk_in _ _ _ _).mono ?_; rintro e w' ⟨rfl, rfl⟩))
  have hg1 := hgrow.size
  have hlt := (hown.lt w.heap.size rfl).2
  have bA := Boxed.new w1 28 (.slice (some ⟨w.heap.size, 0, none⟩) 0 (many a b))
  have b1' := Boxed.new (w1.alloc (.cells #[.slice (some ⟨w.heap.size, 0, none⟩) 0 (many a b)] 28)) 5 (.int .u8 a)
  have b2' := Boxed.new ((w1.alloc (.cells #[.slice (some ⟨w.heap.size, 0, none⟩) 0 (many a b)] 28)).alloc (.cells #[.int .u8 a] 5)) 5 (.int .u8 b)
  rw [World.size_alloc] at b1'
  rw [World.size_alloc, World.size_alloc] at b2'
  have hB0 : Below w.heap.size w (((w1.alloc (.cells #[.slice (some ⟨w.heap.size, 0, none⟩) 0 (many a b)] 28)).alloc (.cells #[.int .u8 a] 5)).alloc (.cells #[.int .u8 b] 5)) :=
    ((((Below.refl w.heap.size w).grown hgrow (Nat.le_refl _) (by simp)).alloc (by omega) _).alloc (by simp; omega) _).alloc (by simp; omega) _
  refine wpIn_rangeFunc_ownG rfl (by omega) (gf := 38) (lb := #[.pointer (some ⟨w1.heap.size + 1, 0, none⟩), .pointer (some ⟨w1.heap.size + 1 + 1, 0, none⟩)]) rfl trivial (enters_of Try.func38 (by kernel_rfl) rfl)
    (walk_stops 4 (by omega) (w1.heap.size + 1) (w1.heap.size + 1 + 1) w.heap.size a b a0 a1 b0 b1 _ (by simp) (by simp) (b1'.alloc _).cell b2'.cell) belowK_t (belowK_b (by simp; omega)) (Below.refl _ _) (fun _ => rfl)
    (fun pre W => (∃ v, Boxed W w1.heap.size 28 v ∧ W.ownsRow w.heap.size 5 1 v pre.length (pre.map (Value.int .u8)) ∧ True) ∧ Below w.heap.size w W)
    (fun _ _ _ => False)
    (OwnFrom.and (Own.from (holdsRow_own w.heap.size w1.heap.size 28 5 1 (fun pre : List Int => pre.length) (fun pre => pre.map (Value.int .u8)) (fun _ _ => True)) _) (ownFrom_below (Nat.le_refl _) (by simp; omega)))
    (fun _ _ _ _ _ hs _ _ => hs)
    ⟨⟨_, (bA.alloc _).alloc _, ((hown.alloc _).alloc _).alloc _, trivial⟩, hB0⟩
    (fun x => { tmps := #[.int .u8 a, .int .u8 b, undef, undef, .slice none 0 0, .pointer (some ⟨w1.heap.size, 0, none⟩), .int .u8 x, .int .u8 a, .int .u8 b, .int .i64 ((b - a) % 128), .int .i64 ((b - a) % 128 + 1), .slice (some ⟨w.heap.size, 0, none⟩) 0 (many a b), .int .u8 a, .int .u8 b, .func (.func 38) #[] #[.pointer (some ⟨w1.heap.size + 1, 0, none⟩), .pointer (some ⟨w1.heap.size + 1 + 1, 0, none⟩)], .int .u8 x, undef, undef, undef, undef, undef], defers := [] }) ?assign ?body ?done ?stop
  case assign =>
    intro l x W K hK
    gi_wp2
    exact hK
  case body =>
    rintro l pre x W ⟨⟨v, hv, hrow, -⟩, hB⟩ hlt
    have hc := hv.cell
    have hm := (many_int a b).2
    gi_wp2_with (gi_at_builtin; refine wpListIn_append_own _ rfl _ _ 28 rfl w.heap.size 5 i0 (.int .u8 0) 1 1 Try.underlying28 hi hz0 hz1 hz2 rfl (by decide) _ _ _ rfl (hrow.alloc _) ⟨W.heap.size, 0, none⟩ 1 1 [.int .u8 x] rfl rfl (cell_one_new _ _ _) (by simp [Value.oneCell']) (by unfold maxLen; omega) (by omega) (by have := hB.size; simp; omega) ?_; intro v' w2 hown' hgrow' _; obtain ⟨g', cap', rfl⟩ := ownsRow_succ hown'; obtain ⟨hv1, hv2, hr2, hk2, hb2⟩ := hv.appended (by decide) hrow hB.size (by omega) hown' hgrow'; have hc1 := hv1.cell; have hf1 := hv1.frozen)
    exact ⟨hk2.from _, hb2, ⟨_, hv2, by simpa using hr2, trivial⟩, hB.trans hb2⟩
  case done =>
    rintro D ys W hD rfl ⟨⟨v, hv, hrow, -⟩, hB⟩ hK
    have hc := hv.cell
    gi_wp2
    refine ⟨by simp, .inl ⟨_, _, rfl, run_takeDeferred hK, ?_⟩⟩
    refine ⟨_, results_tmp rfl _ _ _, v, rfl, ?_, hB.trans (belowK_b (w := w) (Nat.le_refl _) W D _ _ (by simp at hD; omega) hK rfl rfl)⟩
    have := ownsRow_putObj hrow (.deferred none) hK rfl
    rwa [upto_len] at this
  case stop =>
    rintro D c pre W _ _ h _
    exact h.elim

theorem between_any (a b : Int) (a0 : 0 ≤ a) (a1 : a ≤ 255) (b0 : 0 ≤ b) (b1 : b ≤ 255) (w : World) :
    Calls Try.prog 18 #[.int .u8 a, .int .u8 b] w fun e W' => ∃ v, e = .returned v ∧ W'.ownsRow w.heap.size 5 1 v (many a b) ((upto a (many a b)).map (Value.int .u8)) ∧ Below w.heap.size w W' :=
  callsIn_wide.1 (between_in a b a0 a1 b0 b1 w)
end Go.Proofs.Ytpneddlfejjdeaa.Ring
