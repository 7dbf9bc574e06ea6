/- The contract of a clock's Tick; the clock laws' awake. -/
import Derived.Test.YtldjglmelbkngaaGreatClock2
namespace Go.Proofs.YtldjglmelbkngaaGreat.Tape
open Go.ChangeShapes Go.WideShapes Go.ChangeAt Go.RowKit

/-- What is left a tick later. -/
def tk (x : Int) : Int := if x = 0 then 0 else x - 1
/-- Those that run out, from place k on. -/
def outs : Nat → List Int → List Nat
  | _, [] => []
  | k, x :: xs => if x = 1 then k :: outs (k + 1) xs else outs (k + 1) xs

theorem outs_len (k : Nat) (xs : List Int) : (outs k xs).length ≤ xs.length := by
  induction xs generalizing k with
  | nil => simp [outs]
  | cons x xs ih =>
    unfold outs
    have := ih (k + 1)
    split <;> simp <;> omega

/-- Numbers in a row. -/
def nums (os : List Nat) : List Value := os.map fun n : Nat => .int .i64 n

theorem info3 : (Tryz.prog.info? 3).map (fun i => (i.zero, i.size, i.bytes)) = some (some (.int .i64 0), 1, 8) := by kernel_rfl

theorem gb_own {w w1 w2 : World} {r : Option Nat} {row : Option Nat} (h : w.grownBy w1 r) (k : w1.grownBy w2 row) (hr : ∀ k, row = some k → w.heap.size ≤ k) : w.grownBy w2 r :=
  ⟨k.os.trans h.os, k.tape.trans h.tape, k.output.trans h.output, Nat.le_trans h.size k.size, fun i hi hne => (k.block i (Nat.lt_of_lt_of_le hi h.size) (fun e => by have := hr i e.symm; omega)).trans (h.block i hi hne)⟩
theorem gb_more {w w1 : World} {r : Option Nat} (h : w.grownBy w1 r) (o : Obj) : w.grownBy (w1.alloc o) r := h.trans (World.grownBy_alloc w1 o r)
theorem gb_drew {w w1 : World} {r : Option Nat} (h : w.grownBy w1 r) : w.grownBy w1.drew r := ⟨h.os, h.tape, h.output, h.size, h.block⟩
theorem ClockAt.at_ {w w' : World} {b : Nat} {xs : List Int} (h : ClockAt w b xs) (hb : w'.heap[b]? = w.heap[b]?) : ClockAt w' b xs := ⟨hb.trans h.cells, h.len, h.ok⟩

theorem tk_step {xs zs : List Int} {k : Nat} (hk : k < 8) (hx : xs.length = 8) (hz : zs.length = 8) (h1 : zs.take k = (xs.take k).map tk) (h2 : zs.drop k = xs.drop k) :
    (zs.set k (tk (xs.getD k 0))).take (k + 1) = (xs.take (k + 1)).map tk ∧ (zs.set k (tk (xs.getD k 0))).drop (k + 1) = xs.drop (k + 1) := by
  constructor
  · rw [list_take_set _ _ _ (by omega), h1, List.take_succ_eq_append_getElem (show k < xs.length by omega), List.map_append]
    simp [List.getD, show k < xs.length by omega]
  · rw [List.drop_set_of_lt (by omega), ← List.drop_drop, ← List.drop_drop, h2]

theorem set_same {zs : List Int} {k : Nat} {x : Int} (h : zs.getD k 0 = x) (hk : k < zs.length) : zs.set k x = zs := by
  subst h
  simp [List.getD, hk]

theorem set_get {zs : List Int} {k : Nat} {x : Int} (hk : k < zs.length) : (zs.set k x).getD k 0 = x := by
  simp [List.getD, hk]

theorem owns_off {w w' : World} {base : Nat} {e : TypeId} {s : Nat} {v : Value} {n : Nat} {vs : List Value} (h : w.ownsRow base e s v n vs) (hk : ∀ g, v.ownBlock = some g → w'.heap[g]? = w.heap[g]?) : w'.ownsRow base e s v n vs := by
  refine ⟨h.1, ?_⟩
  rcases h.2 with h' | ⟨g, cap, cur, hv, hB, hg, rest⟩
  · exact .inl h'
  · exact .inr ⟨g, cap, cur, hv, hB, by rw [hk g (by rw [hv]; rfl)]; exact hg, rest⟩

set_option maxRecDepth 100000 in
set_option maxHeartbeats 1000000 in
theorem tick_any (b : Nat) (xs : List Int) (w : World) (hc : ClockAt w b xs) : Calls Tryz.prog 58 #[.pointer (some ⟨b, 0, none⟩)] w fun e w' => ∃ v, e = .returned v ∧ w'.ownsRow w.heap.size 3 1 v (outs 0 xs).length (nums (outs 0 xs)) ∧ ClockAt w' b (xs.map tk) ∧ w.grownBy w' (some b) := by
  obtain ⟨i0, hi, hz0, hz1, hz2⟩ := info_parts info3
  have HX : Hid (xs.length = 8) := hc.len
  have HO : Hid (∀ x ∈ xs, 0 ≤ x ∧ x ≤ 4294967296) := hc.ok
  have hblt := hc.lt
  go_enter Tryz.func58, Tryz.ntmps58
  go_wp2
  go_loopw [3, 7] (fun v i wr => ∃ (k : Nat) (zs : List Int) (os : List Nat), k ≤ 8 ∧ i = .int .i64 k ∧ os.length ≤ k ∧ os ++ outs k (xs.drop k) = outs 0 xs ∧ zs.take k = (xs.take k).map tk ∧ zs.drop k = xs.drop k ∧ wr.ownsRow w.heap.size 3 1 v os.length (nums os) ∧ ClockAt wr b zs ∧ w.grownBy wr (some b)) (fun _ i _ => 8 - (intOf i).toNat)
  case atStart => exact ⟨0, xs, [], by omega, rfl, by simp, rfl, by simp, rfl, World.ownsRow_nil _ _ _ _, hc, gb_refl _ _⟩
  case round =>
    clear hc
    obtain ⟨k, zs, os, hk, rfl, hol, hou, hta, hdr, hown, hc, hg⟩ := hrel
    have hszw := hg.size
    by_cases hlt : k < 8
    · have hkl : k < xs.length := by have := HX.out; omega
      obtain ⟨c0, z0⟩ := hc.cell k hlt
      have hzk : zs.getD k 0 = xs[k] := by
        have h := congrArg (fun l => l.getD 0 0) hdr
        have hl := hc.len
        simp [List.getD, hkl, show k < zs.length by omega] at h
        simp [List.getD, h, show k < zs.length by omega]
      rw [hzk] at c0
      obtain ⟨s1, s2⟩ := tk_step hlt HX.out hc.len hta hdr
      have hxb := HO.out _ (List.getElem_mem hkl)
      rw [List.drop_eq_getElem_cons hkl, outs] at hou
      have hgx : xs.getD k 0 = xs[k] := by simp [List.getD, hkl]
      rw [hgx] at s1 s2
      generalize xs[k] = x at *
      obtain ⟨x0, x1⟩ := hxb
      have HS1 : Hid ((zs.set k (tk x)).take (k + 1) = (xs.take (k + 1)).map tk) := s1
      have HS2 : Hid ((zs.set k (tk x)).drop (k + 1) = xs.drop (k + 1)) := s2
      have HU : Hid ((os ++ if x = 1 then k :: outs (k + 1) (xs.drop (k + 1)) else outs (k + 1) (xs.drop (k + 1))) = outs 0 xs) := hou
      have HZ : Hid (zs.getD k 0 = x) := hzk
      obtain ⟨M, hM⟩ : ∃ M, os.length = M := ⟨_, rfl⟩
      have HM : Hid (os.length = M) := hM
      rw [hM] at hol hown
      clear s1 s2 hou hzk hgx hta hdr hM
      by_cases hx0 : x = 0
      · subst hx0
        have HE : Hid (zs.set k (tk 0) = zs) := set_same HZ.out (by have := hc.len; omega)
        go_wp2
        go_roundw
        case rel => exact ⟨k + 1, zs, os, by omega, by go_num, by have := HM.out; omega, HU.out, by rw [← HE.out]; exact HS1.out, by rw [← HE.out]; exact HS2.out, by rw [HM.out]; exact hown, hc, hg⟩
        case measure => simp [intOf]; omega
      · by_cases hx1 : x = 1
        · subst hx1
          go_wp2_with fail
          go_region
          obtain ⟨W, hW⟩ : ∃ W, W = (wr.setCell ⟨b, k, none⟩ (.int .i64 0)).drew := ⟨_, rfl⟩
          have hcW : ClockAt W b (zs.set k 0) := by rw [hW]; exact (hc.set k 0 (by omega)).at_ rfl
          have hgW : w.grownBy W (some b) := by rw [hW]; exact gb_drew (hg.trans (kgb_set _))
          have hoW : W.ownsRow w.heap.size 3 1 u3 M (nums os) := by
            rw [hW]
            exact owns_off hown (fun g hgk => (Below.heap_setCell _ _ _ _ (show g ≠ b by have := (hown.lt g hgk).1; omega)))
          rw [← hW]
          clear hW hc hg hown c0 z0
          have hszW := hgW.size
          obtain ⟨c1, -⟩ := hcW.cell k hlt
          rw [set_get (show k < zs.length by have := hcW.len; rw [List.length_set] at this; omega)] at c1
          go_wp2_with (at_builtin; refine wpList_append_own _ rfl _ _ 92 rfl _ 3 i0 (.int .i64 0) 1 8 Tryz.underlying92 hi hz0 hz1 hz2 rfl (by decide) _ _ _ rfl (hoW.alloc _) ⟨W.heap.size, 0, none⟩ 1 1 [.int .i64 k] rfl rfl (cell_one_new _ _ _) (by simp [Value.oneCell']) (by unfold maxLen; omega) (by omega) (by simp; omega) ?_; intro v8 w8 hown8 hgrow8 _; have hg8 := gb_own (gb_more hgW (.cells #[.int .i64 k] 3)) (show (W.alloc (.cells #[.int .i64 k] 3)).grownBy w8 u3.ownBlock from hgrow8) (fun k hk => (hoW.lt k hk).1); have hc8 : ClockAt w8 b (zs.set k 0) := (hcW.at_ (heap_more hcW.cells _ |>.trans hcW.cells.symm)).at_ (hgrow8.block b (by simp; omega) (fun e => by have := (hoW.lt b e.symm).1; omega)))
          go_roundw
          case rel => exact ⟨k + 1, zs.set k 0, os ++ [k], by omega, by go_num, by rw [List.length_append, HM.out]; simp; omega, by have := HU.out; rw [if_pos trivial] at this; rw [List.append_assoc]; exact this, HS1.out, HS2.out, by rw [List.length_append, HM.out, nums, List.map_append]; exact hown8, hc8, hg8⟩
          case measure => simp [intOf]; omega
        · have hx2 : ¬ x - 1 = 0 := by omega
          have HT : Hid (tk x = x - 1) := by show _ = _; unfold tk; rw [if_neg hx0]
          go_wp2_with fail
          go_region
          obtain ⟨W, hW⟩ : ∃ W, W = (wr.setCell ⟨b, k, none⟩ (.int .i64 (x - 1))).drew := ⟨_, rfl⟩
          have hcW : ClockAt W b (zs.set k (x - 1)) := by rw [hW]; exact (hc.set k (x - 1) (by omega)).at_ rfl
          have hgW : w.grownBy W (some b) := by rw [hW]; exact gb_drew (hg.trans (kgb_set _))
          have hoW : W.ownsRow w.heap.size 3 1 u3 M (nums os) := by
            rw [hW]
            exact owns_off hown (fun g hgk => (Below.heap_setCell _ _ _ _ (show g ≠ b by have := (hown.lt g hgk).1; omega)))
          rw [← hW]
          clear hW hc hg hown c0 z0
          have hszW := hgW.size
          obtain ⟨c1, -⟩ := hcW.cell k hlt
          rw [set_get (show k < zs.length by have := hcW.len; rw [List.length_set] at this; omega)] at c1
          go_wp2
          go_roundw
          case rel => exact ⟨k + 1, zs.set k (x - 1), os, by omega, by go_num, by rw [HM.out]; omega, by have := HU.out; rw [if_neg hx1] at this; exact this, by rw [← HT.out]; exact HS1.out, by rw [← HT.out]; exact HS2.out, by rw [HM.out]; exact hoW, hcW, hgW⟩
          case measure => simp [intOf]; omega
    · obtain rfl : k = 8 := by omega
      rw [List.drop_eq_nil_of_le (by have := HX.out; omega), outs, List.append_nil] at hou
      rw [List.take_of_length_le (by have := hc.len; omega), List.take_of_length_le (by have := HX.out; omega)] at hta
      subst hta
      have HU : Hid (os = outs 0 xs) := hou
      clear hou hdr
      go_wp2
      go_ret
      exact ⟨u3, rfl, by rw [← HU.out]; exact hown, hc, hg⟩

set_option maxRecDepth 100000 in
theorem tick_nil (w : World) : Calls Tryz.prog 58 #[.pointer none] w fun e w' => e = .returned (.slice none 0 0) ∧ w' = w := by
  go_enter Tryz.func58, Tryz.ntmps58
  go_wp2
  go_ret
  exact ⟨rfl, rfl⟩

theorem clock_new (w : World) : ClockAt (w.alloc (.cells ((List.replicate 8 (0 : Int)).map (Value.int .i64)).toArray 82)) w.heap.size (List.replicate 8 0) := ⟨heap_alloc_new w _, by simp, by simp⟩

end Go.Proofs.YtldjglmelbkngaaGreat.Tape
