/- The contracts of the reference's Bits and of tape's Of. -/
import Derived.Test.YtfjfnfofbhikdaaTape2
import Derived.Deep.RegionHeld3
import Derived.Deep.AppendLies
import Derived.Deep.DrawnRows
namespace Go.Proofs.Ytfjfnfofbhikdaa.Tape
open Go.ChangeShapes Go.WideShapes Go.ChangeAt Go.RowKit
attribute [local go_sem ↓] Go.wp_at_zero Go.wp_at_succ

/-- Behind an append in a drawn region nothing below B has turned. -/
theorem below_append {B e n : Nat} {wr w1 : World} {v : Value} {xs : List Value} {o : Obj} (hown : wr.ownsRow B e 1 v n xs) (hB : B ≤ wr.heap.size) (hgrow : (wr.alloc o).drew.grownBy w1 v.ownBlock) : Below B wr w1 :=
  ((((Below.refl B wr).alloc hB o).drew).grown hgrow (by simp; omega) (fun k hk => (hown.lt k hk).1))

theorem getD_get (xs : List Int) (m : Nat) (h : m < xs.length) : xs.getD m 0 = xs[m] := by simp [List.getD, h]

theorem bit_num (x D : Int) (r : Nat) (h : D = 2 ^ r) (hx : 0 ≤ x) : ((x / D).tmod 2 == 1) = bitAt x r := by
  have hD : 0 ≤ D := by rw [h]; exact Int.le_of_lt (Int.pow_pos (by decide))
  rw [Int.tmod_eq_emod_of_nonneg (Int.ediv_nonneg hx hD), h, bitAt, Bool.eq_iff_iff, beq_iff_eq, decide_eq_true_iff]

set_option maxRecDepth 100000 in
set_option maxHeartbeats 1000000 in
theorem rbits_any (ao : Option Addr) (cap : Nat) (xs : List Int) (w : World) (hl : xs.length ≤ 100000) (hx : ∀ x ∈ xs, 0 ≤ x ∧ x ≤ 255) (h : Reads w ao (xs.map (.int .u8))) :
    Calls Try.prog 17 #[.slice ao xs.length cap] w fun e w' => ∃ v, e = .returned v ∧ w'.ownsRow w.heap.size 4 1 v (8 * xs.length) ((bits xs).map .bool) ∧ Below w.heap.size w w' := by
  obtain ⟨i0, hi, hz0, hz1, hz2⟩ := info_parts info4
  go_enter Try.func17, Try.ntmps17
  go_wp2
  go_loopw [3, 4] (fun v i wr => ∃ k : Nat, k ≤ 8 * xs.length ∧ i = .int .i64 k ∧ wr.ownsRow w.heap.size 4 1 v k ((bitsTo xs k).map .bool) ∧ Below w.heap.size w wr) (fun _ i _ => 8 * xs.length - (intOf i).toNat)
  case atStart => exact ⟨0, by omega, rfl, World.ownsRow_nil _ _ _ _, Below.refl _ _⟩
  case round =>
    obtain ⟨k, hk, rfl, hown, hbl⟩ := hrel
    have hsz := hbl.size
    by_cases hlt : k < 8 * xs.length
    · obtain ⟨m, hm⟩ : ∃ m, m = k / 8 := ⟨_, rfl⟩
      obtain ⟨r, hr⟩ : ∃ r, r = k % 8 := ⟨_, rfl⟩
      have HM : Hid (m = k / 8) := hm
      have HR : Hid (r = k % 8) := hr
      have hm1 : m < xs.length := by omega
      have hr1 : r < 8 := by omega
      have e1 : (k : Int).tdiv 8 = (m : Int) := by rw [Int.tdiv_eq_ediv_of_nonneg (by omega)]; omega
      have e2 : (k : Int).tmod 8 = (r : Int) := by rw [Int.tmod_eq_emod_of_nonneg (by omega)]; omega
      have e3 : (k : Int) / 8 = (m : Int) := by omega
      have e4 : (k : Int) % 8 = (r : Int) := by omega
      have e5 : IntKind.i64.wrap (m : Int) = (m : Int) := by
        rw [IntWalk.i64_in _ (by omega)]
      clear hm hr
      obtain ⟨g, off, rfl, hc0⟩ := h.byte m hm1
      have hc := (hbl.cell (p := ⟨g, off + m, none⟩) (World.block_lt_of_cell? w _ hc0)).trans hc0
      obtain ⟨x, hx'⟩ : ∃ x, xs[m] = x := ⟨_, rfl⟩
      rw [hx'] at hc
      have hxr := hx _ (List.getElem_mem hm1)
      rw [hx'] at hxr
      have HX : Hid (xs[m] = x) := hx'
      clear hx'
      have hgb : g < w.heap.size := World.block_lt_of_cell? w ⟨g, off + m, none⟩ hc0
      clear hc0
      have k1 : (0 : Int) ≤ (m : Int) := by omega
      have k2 : (m : Int) < (xs.length : Int) := by omega
      have k3 : (0 : Int) ≤ (r : Int) := by omega
      have k4 : (r : Int) < 8 := by omega
      obtain ⟨D, hD⟩ : ∃ D : Int, D = 2 ^ r := ⟨_, rfl⟩
      have hp := pow_lt r hr1
      rw [← hD] at hp
      have d1 : 1 ≤ D := hp.2
      have d2 : D ≤ 128 := hp.1
      have e7 : (2 : Int) ^ r % 256 = D := by rw [← hD]; omega
      have e8 : (2 : Int) ^ r = D := hD.symm
      have HD : Hid (D = 2 ^ r) := hD
      have d3 : (D == 0) = false := by rw [beq_eq_false_iff_ne]; omega
      have d4 : ¬ D = 0 := by omega
      have e9 : IntKind.u8.wrap D = D := by rw [IntKind.wrap_u8]; omega
      have e10 : IntKind.u8.wrap (x.tdiv D) = x / D := by
        rw [Int.tdiv_eq_ediv_of_nonneg hxr.1, IntKind.wrap_u8]
        have q1 : 0 ≤ x / D := Int.ediv_nonneg hxr.1 (by omega)
        have q2 : x / D ≤ x := Int.ediv_le_self _ hxr.1
        omega
      clear hD hp
      go_wp2
      go_region_held3 (fun w' => w'.cell? ⟨g, off + m, none⟩ = some (.int .u8 x)) (first | go_keep | skip) ((refine step_append_lies _ (by rfl) _ _ 26 (by rfl) w.heap.size 4 i0 (.bool false) 1 1 Try.underlying26 hi hz0 hz1 hz2 (by rfl) (by decide) u3 k ((bitsTo xs k).map .bool) (by rfl) (by exact (hown.alloc _).drew) ⟨wr.heap.size, 0, none⟩ 1 1 [.bool ((x / D).tmod 2 == 1)] (by rfl) (by rfl) (by intro j u hj; exact cell_one_new _ _ _ j u hj) (by simp [Value.oneCell']) (by decide) (by unfold maxLen; omega) (by omega) (by simp; omega) (wr.heap.size + 1) (by simp) ?_; intro g' cap' w1 hown1 hgrow hat hlt'; have hbl1 := below_append hown hsz hgrow; have hc1 := (hbl1.cell (p := ⟨g, off + m, none⟩) hgb).trans hc))
      go_wp2
      go_roundw
      case rel => exact ⟨k + 1, by omega, by go_num, by rw [bitsTo_succ, List.map_append, ← HM.out, ← HR.out, show xs.getD m 0 = x from by rw [getD_get xs m hm1]; exact HX.out, ← bit_num x D r HD.out hxr.1]; exact hown1, hbl.trans hbl1⟩
      case measure => simp [intOf]; omega
    · obtain rfl : k = 8 * xs.length := by omega
      go_wp2
      go_ret
      exact ⟨_, rfl, hown, hbl⟩

theorem and_bit (x : Int) (r : Nat) (h0 : 0 ≤ x) (h1 : x ≤ 255) : (Go.bits BinOp.and IntKind.u8 (x / 2 ^ r) 1 == 1) = bitAt x r := by
  have hp : (0 : Int) ≤ 2 ^ r := Int.le_of_lt (Int.pow_pos (by decide))
  have q1 : 0 ≤ x / 2 ^ r := Int.ediv_nonneg h0 hp
  have q2 : x / 2 ^ r ≤ x := Int.ediv_le_self _ h0
  rw [u8_and _ _ q1 (by omega) (by decide) (by decide)]
  rw [show (1 : Int).toNat = 1 from rfl, Nat.and_one_is_mod, bitAt, Bool.eq_iff_iff, beq_iff_eq, decide_eq_true_iff]
  omega

set_option maxRecDepth 100000 in
set_option maxHeartbeats 1000000 in
theorem of_any (ao : Option Addr) (cap : Nat) (xs : List Int) (w : World) (hl : xs.length ≤ 100000) (hx : ∀ x ∈ xs, 0 ≤ x ∧ x ≤ 255) (h : Reads w ao (xs.map (.int .u8))) :
    Calls Try.prog 30 #[.slice ao xs.length cap] w fun e w' => ∃ v, e = .returned v ∧ w'.ownsRow w.heap.size 4 1 v (8 * xs.length) ((bits xs).map .bool) ∧ Below w.heap.size w w' := by
  obtain ⟨i0, hi, hz0, hz1, hz2⟩ := info_parts info4
  go_enter Try.func30, Try.ntmps30
  go_wp2_with (at_make; refine wpList_make_own _ rfl _ _ 27 rfl w.heap.size 4 i0 (.bool false) 1 Try.underlying27 hi hz0 hz1 _ _ _ (8 * xs.length) rfl rfl (by omega) (by rw [hz2]; omega) (by unfold maxLen; omega) (Nat.le_refl _) ?_; intro w1 hown1 hgrow1)
  have hb1 : Below w.heap.size w w1 := (Below.refl w.heap.size w).grown hgrow1 (Nat.le_refl _) (by simp)
  go_loopw [3, 13] (fun v i wr => ∃ m : Nat, m ≤ xs.length ∧ i = .int .i64 m ∧ wr.ownsRow w.heap.size 4 1 v (8 * m) ((bitsTo xs (8 * m)).map .bool) ∧ Below w.heap.size w wr) (fun _ i _ => xs.length - (intOf i).toNat)
  case atStart => exact ⟨0, by omega, rfl, hown1, hb1⟩
  case round =>
    clear hown1 hgrow1 hb1
    obtain ⟨m, hm, rfl, hown, hbl⟩ := hrel
    by_cases hlt : m < xs.length
    · obtain ⟨g, off, rfl, hc0⟩ := h.byte m hlt
      have hc := (hbl.cell (p := ⟨g, off + m, none⟩) (World.block_lt_of_cell? w _ hc0)).trans hc0
      obtain ⟨x, hx'⟩ : ∃ x, xs[m] = x := ⟨_, rfl⟩
      rw [hx'] at hc
      have hxr := hx _ (List.getElem_mem hlt)
      rw [hx'] at hxr
      have HX : Hid (xs[m] = x) := hx'
      clear hx' hc0
      go_wp2
      go_loopw [3, 17] (fun v i wr => ∃ r : Nat, r ≤ 8 ∧ i = .int .i64 r ∧ wr.ownsRow w.heap.size 4 1 v (8 * m + r) ((bitsTo xs (8 * m + r)).map .bool) ∧ Below w.heap.size w wr) (fun _ i _ => 8 - (intOf i).toNat)
      case atStart => exact ⟨0, by omega, rfl, hown, hbl⟩
      case round =>
        clear hown hbl hc
        obtain ⟨r, hr, rfl, hown, hbl⟩ := hrel
        have hsz := hbl.size
        by_cases hr8 : r < 8
        · go_wp2_with (at_builtin; refine wpList_append_own _ rfl _ _ 27 rfl w.heap.size 4 i0 (.bool false) 1 1 Try.underlying27 hi hz0 hz1 hz2 rfl (by decide) _ _ _ rfl (hown.alloc _) ⟨wr.heap.size, 0, none⟩ 1 1 [.bool (Go.bits BinOp.and IntKind.u8 (x / 2 ^ r) 1 == 1)] rfl rfl (cell_one_new _ _ _) (by simp [Value.oneCell']) (by unfold maxLen; omega) (by omega) (by simp; omega) ?_; intro v' w2 hown' hgrow _)
          have hbl2 := (hbl.alloc hsz _).grown hgrow (by simp; omega) (fun k hk => (hown.lt k hk).1)
          have hbit : [Value.bool (Go.bits BinOp.and IntKind.u8 (x / 2 ^ r) 1 == 1)] = [bitAt (xs.getD ((8 * m + r) / 8) 0) ((8 * m + r) % 8)].map .bool := by
            rw [show (8 * m + r) / 8 = m from by omega, show (8 * m + r) % 8 = r from by omega, getD_get xs m hlt, HX.out, and_bit x r hxr.1 hxr.2]; rfl
          rw [hbit, ← List.map_append, ← bitsTo_succ] at hown'
          clear hbit hgrow hown
          go_wp2
          go_roundw
          case rel => exact ⟨r + 1, by omega, by go_num, hown', hbl2⟩
          case measure => simp [intOf]; omega
        · obtain rfl : r = 8 := by omega
          go_wp2
          go_roundw
          case rel => exact ⟨m + 1, by omega, by go_num, hown, hbl⟩
          case measure => simp [intOf]; omega
    · obtain rfl : m = xs.length := by omega
      go_wp2
      go_ret
      exact ⟨_, rfl, hown, hbl⟩
end Go.Proofs.Ytfjfnfofbhikdaa.Tape
