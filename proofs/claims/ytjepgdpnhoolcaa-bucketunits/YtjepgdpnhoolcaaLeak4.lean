/- The contracts of the bucket laws' awake and units; what they are told of a slice of numbers that came in. -/
import Derived.Test.YtjepgdpnhoolcaaLeak3
namespace Go.Proofs.Ytjepgdpnhoolcaa.Tape
open Go.ChangeShapes Go.WideShapes Go.ChangeAt Go.RowKit

theorem Reads.of_ints {k : IntKind} {w : World} {x : Addr} {zs : List Int} {len : Nat} (hc : ∀ i, i < zs.length → w.cell? (x.add i) = some (.int k (zs.getD i 0))) (hl : len ≤ zs.length) :
    Reads w (some x) ((zs.take len).map (.int k)) := fun j v hk => by
  have hk' : j < len ∧ j < zs.length := by
    have := (List.getElem?_eq_some_iff.1 hk).1
    simp at this
    omega
  obtain ⟨b, off, rfl, hcc⟩ := ints_at hc (show 0 < zs.length by omega)
  refine ⟨b, off, rfl, ?_⟩
  rw [hcc j hk'.2]
  rw [List.getElem?_map, List.getElem?_take, if_pos hk'.1, List.getElem?_eq_getElem hk'.2] at hk
  simp at hk
  subst hk
  simp [List.getD, hk'.2]

/-- What a law is told of a slice of numbers that came in, as a list. -/
theorem row_nums {k : IntKind} {w : World} {a : Option Addr} {len cap : Nat} {zs : List Int} (h : (a = none ∧ len = 0 ∧ cap = 0 ∧ zs = []) ∨
    ∃ x, a = some x ∧ len ≤ cap ∧ cap ≤ maxLen ∧ zs.length = cap ∧ (∀ i, i < zs.length → w.cell? (x.add i) = some (.int k (zs.getD i 0))) ∧ ∀ n ∈ zs, (Lit.int k n).wf = true) :
    ∃ xs : List Int, xs.length = len ∧ len ≤ maxLen ∧ Reads w a (xs.map (.int k)) ∧ ∀ x ∈ xs, (Lit.int k x).wf = true := by
  rcases h with ⟨rfl, rfl, rfl, rfl⟩ | ⟨x, rfl, h1, h2, h3, h4, h5⟩
  · exact ⟨[], rfl, Nat.zero_le _, Reads.nil _ _, by simp⟩
  · exact ⟨zs.take len, by simp; omega, by omega, Reads.of_ints h4 (by omega), fun n hn => h5 n (List.mem_of_mem_take hn)⟩

theorem fails64 : fails lk0 (List.replicate 64 true) 0 = 63 := by decide +kernel

set_option maxRecDepth 100000 in
set_option maxHeartbeats 1000000 in
theorem awake8_any (w : World) : Calls Try.prog 19 #[] w fun e w' => e = .returned (.bool true) ∧ Below w.heap.size w w' := by
  obtain ⟨i0, hi, hz0, hz1, hz2⟩ := info_parts info4
  go_enter Try.func19, Try.ntmps19
  go_wp2_with (at_make; refine wpList_make_full _ rfl _ _ 41 rfl w.heap.size 4 i0 (.bool false) 1 Try.underlying41 hi hz0 hz1 _ _ _ _ 64 rfl rfl (by omega) (by omega) (by rw [hz2]; omega) (by unfold maxLen; omega) (Nat.le_refl _) ?_; intro w1 hown1 hgrow1)
  have hm1 : w1.ownsRow w.heap.size 4 1 (.slice (some ⟨w.heap.size, 0, none⟩) 64 64) 64 ((List.replicate 64 false).map .bool) := by
    have := hown1
    rw [Nat.mul_one, show (Value.bool false).cells = #[.bool false] from rfl, toList_madeCells_one] at this
    rw [List.map_replicate]; exact this
  have hB1 : Below w.heap.size w w1 := (Below.refl _ _).grown hgrow1 (Nat.le_refl _) (by simp)
  clear hown1 hgrow1
  go_loopw [2] (fun i wr => ∃ (k : Nat) (bs : List Bool), k ≤ 64 ∧ i = .int .i64 k ∧ bs.length = 64 ∧ bs.take k = List.replicate k true ∧ wr.ownsRow w.heap.size 4 1 (.slice (some ⟨w.heap.size, 0, none⟩) 64 64) 64 (bs.map .bool) ∧ Below w.heap.size w wr) (fun i _ => 64 - (intOf i).toNat)
  case atStart => exact ⟨0, _, by omega, rfl, by simp, by simp, hm1, hB1⟩
  case round =>
    clear hm1 hB1
    obtain ⟨k, bs, hk, rfl, hbl, htk, hown, hB⟩ := hrel
    have HL : Hid (bs.length = 64) := hbl
    clear hbl
    by_cases hlt : k < 64
    · obtain ⟨hcell, hfz, -⟩ := owns_cell hown k (by rw [List.length_map, HL.out]; exact hlt)
      have hown2 := owns_set hown k (.bool true)
      rw [← List.map_set] at hown2
      have hB2 := hB.setCell (p := ⟨w.heap.size, k, none⟩) (Nat.le_refl _) (.bool true)
      go_wp2
      go_roundw
      case rel => exact ⟨k + 1, bs.set k true, by omega, by go_num, by rw [List.length_set]; exact HL.out, by rw [list_take_set _ _ _ (by rw [HL.out]; exact hlt), htk, ← List.replicate_succ'], hown2, hB2⟩
      case measure => simp [intOf]; omega
    · obtain rfl : k = 64 := by omega
      rw [List.take_of_length_le (by rw [HL.out]; omega)] at htk
      have hr := Reads.of_owns hown
      have hu := units_any _ 64 64 bs 63 wr HL.out (by omega) hr (by rw [htk]; exact fails64)
      go_wp2_with fail
      refine hu.mono ?_
      rintro e w2 ⟨rfl, hb2⟩
      have hB2 := hB.trans (hb2.mono hB.size)
      clear hu
      go_wp2
      go_ret
      exact ⟨rfl, hB2⟩

set_option maxRecDepth 100000 in
set_option maxHeartbeats 1000000 in
theorem unitsof_any (ao : Option Addr) (n cap : Nat) (xs : List Int) (w : World) (hn : xs.length = n) (hm : n ≤ maxLen) (hr : Reads w ao (xs.map (.int .u16))) (hx : ∀ x ∈ xs, (Lit.int .u16 x).wf = true) :
    Calls Try.prog 20 #[.slice ao n cap] w fun e w' => ∃ (v : Value) (bs : List Bool), e = .returned v ∧ bs.length ≤ 12000 ∧ w'.ownsRow w.heap.size 4 1 v bs.length (bs.map .bool) ∧ Below w.heap.size w w' := by
  obtain ⟨i0, hi, hz0, hz1, hz2⟩ := info_parts info4
  have HN : Hid (xs.length = n) := hn
  have hm' : n ≤ 9223372036854775807 := hm
  clear hn hm
  go_enter Try.func20, Try.ntmps20
  go_wp2
  go_loopw [3, 4] (fun t i wr => ∃ (k : Nat) (bs : List Bool), k ≤ 40 ∧ i = .int .i64 k ∧ bs.length ≤ k * 300 ∧ wr.ownsRow w.heap.size 4 1 t bs.length (bs.map .bool) ∧ Below w.heap.size w wr) (fun _ i _ => 40 - (intOf i).toNat)
  case atStart => exact ⟨0, [], by omega, rfl, by simp, World.ownsRow_nil _ _ _ _, Below.refl _ _⟩
  case round =>
    obtain ⟨k, bs, hk, rfl, hbl, hown, hB⟩ := hrel
    by_cases hlt : k < n ∧ k < 40
    · obtain ⟨h1, h2⟩ := hlt
      have hkl : k < xs.length := by have := HN.out; omega
      have hxk := bounds_u16 (hx _ (List.getElem_mem hkl))
      obtain ⟨y, hy⟩ : ∃ y, xs[k] = y := ⟨_, rfl⟩
      rw [hy] at hxk
      have HY : Hid (xs[k] = y) := hy
      obtain ⟨y0, y1⟩ := hxk
      obtain ⟨c, hc⟩ : ∃ c : Nat, y % 300 = (c : Int) := ⟨(y % 300).toNat, by omega⟩
      have hc1 : c < 300 := by omega
      have HBL : Hid (bs.length ≤ k * 300) := hbl
      clear hy hbl
      go_wp2_with fail
      have e40 : decide ((k : Int) < 40) = true := decide_eq_true (by omega)
      rw [e40]
      clear e40
      go_loopw [3, 5] (fun t j wx => ∃ (d : Nat) (cs : List Bool), d ≤ c ∧ j = .int .i64 d ∧ cs.length ≤ k * 300 + d ∧ wx.ownsRow w.heap.size 4 1 t cs.length (cs.map .bool) ∧ Below w.heap.size w wx) (fun _ j _ => c - (intOf j).toNat)
      case atStart => exact ⟨0, bs, by omega, rfl, HBL.out, hown, hB⟩
      case round =>
        obtain ⟨d, cs, hd, rfl, hcl, hownx, hbx⟩ := hrel
        obtain ⟨g, off, rfl, hcell⟩ := (hr.below (Nat.le_refl _) hbx) k (.int .u16 xs[k]) (by simp [hkl])
        rw [HY.out] at hcell
        obtain ⟨M, hM⟩ : ∃ M, cs.length = M := ⟨_, rfl⟩
        have HM : Hid (cs.length = M) := hM
        rw [hM] at hcl hownx
        clear hM
        have hszx := hbx.size
        by_cases hdc : d < c
        · have hk2 : (k : Int) % 2 = 0 ∨ (k : Int) % 2 = 1 := by omega
          rcases hk2 with hk2 | hk2
          · have hk3 : (k : Int).tmod 2 = 0 := by rw [Int.tmod_eq_emod_of_nonneg (by omega)]; exact hk2
            go_wp2_with (at_builtin; refine wpList_append_own _ rfl _ _ 41 rfl _ 4 i0 (.bool false) 1 1 Try.underlying41 hi hz0 hz1 hz2 rfl (by decide) _ _ _ rfl (hownx.alloc _) ⟨wr.heap.size, 0, none⟩ 1 1 [.bool true] rfl rfl (cell_one_new _ _ _) (by simp [Value.oneCell']) (by unfold maxLen; omega) (by omega) (by simp; omega) ?_; intro v8 w8 hown8 hgrow8 _; have hb8 := (hbx.alloc hszx (.cells #[.bool true] 4)).grown (show (wr.alloc (.cells #[.bool true] 4)).grownBy w8 u3.ownBlock from hgrow8) (by simp; omega) (fun k hk => (hownx.lt k hk).1))
            go_roundw
            case rel => exact ⟨d + 1, cs ++ [true], by omega, by go_num, by rw [List.length_append, HM.out]; simp; omega, by rw [List.length_append, List.map_append, HM.out]; exact hown8, hb8⟩
            case measure => simp [intOf]; omega
          · have hk3 : (k : Int).tmod 2 = 1 := by rw [Int.tmod_eq_emod_of_nonneg (by omega)]; exact hk2
            go_wp2_with (at_builtin; refine wpList_append_own _ rfl _ _ 41 rfl _ 4 i0 (.bool false) 1 1 Try.underlying41 hi hz0 hz1 hz2 rfl (by decide) _ _ _ rfl (hownx.alloc _) ⟨wr.heap.size, 0, none⟩ 1 1 [.bool false] rfl rfl (cell_one_new _ _ _) (by simp [Value.oneCell']) (by unfold maxLen; omega) (by omega) (by simp; omega) ?_; intro v8 w8 hown8 hgrow8 _; have hb8 := (hbx.alloc hszx (.cells #[.bool false] 4)).grown (show (wr.alloc (.cells #[.bool false] 4)).grownBy w8 u3.ownBlock from hgrow8) (by simp; omega) (fun k hk => (hownx.lt k hk).1))
            go_roundw
            case rel => exact ⟨d + 1, cs ++ [false], by omega, by go_num, by rw [List.length_append, HM.out]; simp; omega, by rw [List.length_append, List.map_append, HM.out]; exact hown8, hb8⟩
            case measure => simp [intOf]; omega
        · go_wp2
          go_roundw
          case rel => exact ⟨k + 1, cs, by omega, by go_num, by have := HM.out; omega, by rw [HM.out]; exact hownx, hbx⟩
          case measure => simp [intOf]; omega
    · by_cases h1 : k < n
      · have h2 : ¬ k < 40 := fun h => hlt ⟨h1, h⟩
        clear hlt
        go_wp2
        go_ret
        exact ⟨u3, bs, rfl, by omega, hown, hB⟩
      · clear hlt
        go_wp2
        go_ret
        exact ⟨u3, bs, rfl, by omega, hown, hB⟩
end Go.Proofs.Ytjepgdpnhoolcaa.Tape
