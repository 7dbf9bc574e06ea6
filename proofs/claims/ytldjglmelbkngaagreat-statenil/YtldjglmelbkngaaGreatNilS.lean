/- The walk of the law StateNil. -/
import Derived.Test.YtldjglmelbkngaaGreatState21
namespace Go.Proofs.YtldjglmelbkngaaGreat.Tape
open Go.ChangeShapes Go.WideShapes Go.ChangeAt Go.RowKit
set_option linter.unusedVariables false

attribute [local go_sem ↓] ldU_def

/-- An order loaded whole, under a name of its own. -/
def ldOr (v : Value) : Sem Value := Instr.loadAt 63 v
theorem ldOr_def (v : Value) : Instr.loadAt 63 v = ldOr v := rfl
theorem infoOr : (Tryz.prog.info? 63).map (·.size) = some 2 := by kernel_rfl
theorem ld_order {w : World} {B : Nat} {cs : Array Value} (h : w.heap[B]? = some (.cells cs 63 (0, 0))) (hs : cs.size = 2) : (ldOr (.pointer (some ⟨B, 0, none⟩))).run Tryz.prog w = .ok (.agg cs) w := by
  show (Instr.loadAt 63 (.pointer (some ⟨B, 0, none⟩))).run Tryz.prog w = .ok (.agg cs) w
  have := run_loadAt_mid (P := Tryz.prog) w B 0 63 cs.toList _ (range_all h) Tryz.underlying63 rfl (by rw [infoOr]; simp [hs])
  simpa using this
attribute [local go_sem ↓] ldOr_def

theorem field_kd (a b : Int) (c d : Bool) (k st : Int) (wd : Bool) (x : Value) (w : World) : (Instr.field 32 (.agg #[.int .u8 a, .int .u8 b, .bool c, .bool d, .int .u8 k, .int .u8 st, .bool wd, x]) 4).run Tryz.prog w = .ok (.int .u8 k) w := by
  show _ = _
  kernel_rfl

set_option maxRecDepth 100000 in
set_option maxHeartbeats 4000000 in
theorem nil_walk (o u : Value) (s : Int) (w : World) (ho : IsOrder w o) (hu : IsUnit w u) (h0 : 0 ≤ s) (h1 : s ≤ 255) : Calls Tryz.prog 10 #[o, u, .int .u8 s] w fun e w' => e = .returned (.bool true) ∧ Below w.heap.size w w' := by
  obtain ⟨ok, po, pn, pcap, ps, rfl, -, hpn, hpc, hpm, -, -⟩ := ho
  obtain ⟨b, f, p, q, k, st, wd, ao, n, cap, xs, rfl, -, -, -, -, hn, hnc, hcm, -, -, -⟩ := hu
  obtain ⟨W1, hW1⟩ : ∃ W, W = w.alloc (.cells #[.int .u8 ok, .slice po pn pcap] 63) := ⟨_, rfl⟩
  have hB1 : Below w.heap.size w W1 := by rw [hW1]; exact (Below.refl _ _).alloc (Nat.le_refl _) _
  have hh1 : W1.heap[w.heap.size]? = some (.cells #[.int .u8 ok, .slice po pn pcap] 63 (0, 0)) := by rw [hW1]; exact heap_alloc_new w _
  obtain ⟨W2, hW2, hB2, hh2⟩ := box_unit W1 #[.int .u8 b, .int .u8 f, .bool p, .bool q, .int .u8 k, .int .u8 st, .bool wd, .slice ao n cap]
  have hs1 : W1.heap.size = w.heap.size + 1 := by rw [hW1]; simp
  rw [hs1] at hh2
  have hh12 := (hB2.block _ (heap_lt hh1)).trans hh1
  have HH : Hid (W2.heap[w.heap.size]? = some (.cells #[.int .u8 ok, .slice po pn pcap] 63 (0, 0)) ∧ W2.heap[w.heap.size + 1]? = some (.cells #[.int .u8 b, .int .u8 f, .bool p, .bool q, .int .u8 k, .int .u8 st, .bool wd, .slice ao n cap] 32 (0, 0)) ∧ Below w.heap.size w W2) := ⟨hh12, hh2, hB1.trans (below_le hB2 hB1.size)⟩
  have haw := fun Y => awake17_any Y
  have hnn : pn ≤ maxLen ∧ n ≤ maxLen := ⟨by omega, by omega⟩
  obtain ⟨hnp, hnu⟩ := hnn
  have d1 : W2.cell? ⟨w.heap.size, 1, none⟩ = some (.slice po pn pcap) := by rw [Lib.cell_of_heap hh12]; rfl
  have u7 := (unit_cells hh2).1.2.2.2.2.2.2.2
  have HN : Hid (s = 0 ∨ s = 1 ∨ s = 2 ∨ s = 3 ∨ s = 4 ∨ s = 5 ∨ 6 ≤ s) := by show _ ∨ _; omega
  have HP : Hid ((∃ xs : List Int, True) ∧ True) := ⟨⟨[], trivial⟩, trivial⟩
  clear hs1 hh1 hh2 hh12 hB1 hB2 hpn hpc hpm hn hnc hcm HP
  by_cases hl : 100 < pn ∨ 100 < n
  · rcases (show 100 < pn ∨ (¬ 100 < pn ∧ 100 < n) by omega) with hp | ⟨hp, hq⟩
    · have hg : decide ((pn : Int) > 100) = true := by simp; omega
      go_enter Tryz.func10, Tryz.ntmps10
      go_upto_region 1 with fail
      try rw [← hW1]
      try rw [← hW2]
      clear hW1 hW2 u7
      go_wp2_with fail
      refine (haw _).mono ?_
      rintro e w1 ⟨rfl, hB1⟩
      have e1 := (World.cell?_of_block (a := ⟨w.heap.size, 1, none⟩) (hB1.block _ (heap_lt HH.out.1))).trans d1
      have HB1 : Hid (Below w.heap.size w w1) := HH.out.2.2.trans (below_le hB1 HH.out.2.2.size)
      clear d1 hB1
      go_wp2_with fail
      refine (haw _).mono ?_
      rintro e w2 ⟨rfl, hB2⟩
      have HB2 : Hid (Below w.heap.size w w2) := HB1.out.trans (below_le hB2 HB1.out.size)
      clear hB2 haw
      go_wp2
      go_ret
      exact ⟨rfl, HB2.out⟩
    · have hg : decide ((pn : Int) > 100) = false := by simp; omega
      have hk : decide ((n : Int) > 100) = true := by simp; omega
      go_enter Tryz.func10, Tryz.ntmps10
      go_upto_region 1 with fail
      try rw [← hW1]
      try rw [← hW2]
      clear hW1 hW2
      go_wp2_with fail
      refine (haw _).mono ?_
      rintro e w1 ⟨rfl, hB1⟩
      have e1 := (World.cell?_of_block (a := ⟨w.heap.size, 1, none⟩) (hB1.block _ (heap_lt HH.out.1))).trans d1
      have e7 := (World.cell?_of_block (a := ⟨w.heap.size + 1, 7, none⟩) (hB1.block _ (heap_lt HH.out.2.1))).trans u7
      have HB1 : Hid (Below w.heap.size w w1) := HH.out.2.2.trans (below_le hB1 HH.out.2.2.size)
      clear d1 hB1 u7
      go_wp2_with fail
      refine (haw _).mono ?_
      rintro e w2 ⟨rfl, hB2⟩
      have HB2 : Hid (Below w.heap.size w w2) := HB1.out.trans (below_le hB2 HB1.out.size)
      clear hB2 haw
      go_wp2
      go_ret
      exact ⟨rfl, HB2.out⟩
  · have hg : decide ((pn : Int) > 100) = false := by simp; omega
    have hk : decide ((n : Int) > 100) = false := by simp; omega
    go_enter Tryz.func10, Tryz.ntmps10
    go_upto_region 1 with fail
    try rw [← hW1]
    try rw [← hW2]
    clear hW1 hW2 hl
    go_wp2_with fail
    refine (haw _).mono ?_
    rintro e w1 ⟨rfl, hB1⟩
    have e1 := (World.cell?_of_block (a := ⟨w.heap.size, 1, none⟩) (hB1.block _ (heap_lt HH.out.1))).trans d1
    have e7 := (World.cell?_of_block (a := ⟨w.heap.size + 1, 7, none⟩) (hB1.block _ (heap_lt HH.out.2.1))).trans u7
    have HB1 : Hid (Below w.heap.size w w1) := HH.out.2.2.trans (below_le hB1 HH.out.2.2.size)
    have HU1 : Hid (w1.heap[w.heap.size]? = some (.cells #[.int .u8 ok, .slice po pn pcap] 63 (0, 0)) ∧ w1.heap[w.heap.size + 1]? = some (.cells #[.int .u8 b, .int .u8 f, .bool p, .bool q, .int .u8 k, .int .u8 st, .bool wd, .slice ao n cap] 32 (0, 0))) := ⟨(hB1.block _ (heap_lt HH.out.1)).trans HH.out.1, (hB1.block _ (heap_lt HH.out.2.1)).trans HH.out.2.1⟩
    clear d1 hB1 u7
    go_wp2_with fail
    refine (st_tick_nil _).mono ?_
    rintro e w2 ⟨rfl, hw2⟩
    obtain rfl := hw2.symm
    clear hw2 haw e1 e7
    go_wp2_with fail
    refine (st_damage_nil _).mono ?_
    rintro e w2 ⟨rfl, hw2⟩
    obtain rfl := hw2.symm
    have hlu := (ld_unit HU1.out.2 rfl).1
    clear hw2
    go_wp2_with fail
    refine (st_hear_nil _ _).mono ?_
    rintro e w2 ⟨rfl, hB2⟩
    have HB2 : Hid (Below w.heap.size w w2) := HB1.out.trans (below_le hB2 HB1.out.size)
    have HU2 : Hid (w2.heap[w.heap.size]? = some (.cells #[.int .u8 ok, .slice po pn pcap] 63 (0, 0))) := (hB2.block _ (heap_lt HU1.out.1)).trans HU1.out.1
    clear hB2 hlu
    go_wp2_with fail
    refine (st_fail_nil _ _).mono ?_
    rintro e w3 ⟨rfl, hw3⟩
    obtain rfl := hw3.symm
    clear hw3
    obtain ⟨W4, hW4⟩ : ∃ W, W = w2.alloc (.cells #[.string ⟨#[111, 117, 116]⟩, .string ⟨#[97, 108, 105, 103, 110, 105, 110, 103]⟩, .string ⟨#[114, 101, 97, 100, 121]⟩, .string ⟨#[110, 111, 116, 114, 101, 97, 100, 121]⟩, .string ⟨#[115, 101, 114, 118, 105, 99, 101]⟩, .string ⟨#[104, 97, 108, 116, 101, 100]⟩] 9) := ⟨_, rfl⟩
    have hh4 : W4.heap[w2.heap.size]? = some (.cells #[.string ⟨#[111, 117, 116]⟩, .string ⟨#[97, 108, 105, 103, 110, 105, 110, 103]⟩, .string ⟨#[114, 101, 97, 100, 121]⟩, .string ⟨#[110, 111, 116, 114, 101, 97, 100, 121]⟩, .string ⟨#[115, 101, 114, 118, 105, 99, 101]⟩, .string ⟨#[104, 97, 108, 116, 101, 100]⟩] 9 (0, 0)) := by rw [hW4]; exact heap_alloc_new w2 _
    have hB4 : Below w2.heap.size w2 W4 := by rw [hW4]; exact (Below.refl _ _).alloc (Nat.le_refl _) _
    have HB4 : Hid (Below w.heap.size w W4) := HB2.out.trans (below_le hB4 HB2.out.size)
    have hlo := ld_order ((hB4.block _ (heap_lt HU2.out)).trans HU2.out) rfl
    have HC : Hid (∀ (i : Nat) (v : ByteArray), [(⟨#[111, 117, 116]⟩ : ByteArray), ⟨#[97, 108, 105, 103, 110, 105, 110, 103]⟩, ⟨#[114, 101, 97, 100, 121]⟩, ⟨#[110, 111, 116, 114, 101, 97, 100, 121]⟩, ⟨#[115, 101, 114, 118, 105, 99, 101]⟩, ⟨#[104, 97, 108, 116, 101, 100]⟩][i]? = some v → W4.cell? ⟨w2.heap.size, i, none⟩ = some (.string v)) := fun i v hi => by
      rw [Lib.cell_of_heap hh4]
      match i, hi with
      | 0, hi => exact congrArg _ (congrArg _ (Option.some.inj hi))
      | 1, hi => exact congrArg _ (congrArg _ (Option.some.inj hi))
      | 2, hi => exact congrArg _ (congrArg _ (Option.some.inj hi))
      | 3, hi => exact congrArg _ (congrArg _ (Option.some.inj hi))
      | 4, hi => exact congrArg _ (congrArg _ (Option.some.inj hi))
      | 5, hi => exact congrArg _ (congrArg _ (Option.some.inj hi))
      | i + 6, hi => simp at hi
    have hnm := fun Y => stnam_any s h0 h1 Y
    clear hh4 hB4 HU1 HU2 HB1 HB2
    go_upto_region 9 with fail
    try rw [← hW4]
    clear hW4
    generalize w2.heap.size = g at *
    rcases HN.out with rfl | rfl | rfl | rfl | rfl | rfl | h6
    · have hc0 := HC.out 0 _ rfl
      clear HN HC
      go_wp2_with fail
      refine (st_order_nil _ _).mono ?_
      rintro e w5 ⟨rfl, hB5⟩
      have HB5 : Hid (Below w.heap.size w w5) := HB4.out.trans (below_le hB5 HB4.out.size)
      clear hc0 hlo hB5
      go_wp2_with fail
      refine (st_told_nil _).mono ?_
      rintro e w6 ⟨rfl, hw6⟩
      obtain rfl := hw6.symm
      clear hw6
      go_wp2_with fail
      refine (st_next_nil _).mono ?_
      rintro e w7 ⟨rfl, hB7⟩
      have HB7 : Hid (Below w.heap.size w w7) := HB5.out.trans (below_le hB7 HB5.out.size)
      have hfd := field_kd 0 0 false false 0 0 false (.slice none 0 0) w7
      clear hB7
      go_wp2_with fail
      refine (st_fails_nil _).mono ?_
      rintro e w8 ⟨rfl, hw8⟩
      obtain rfl := hw8.symm
      clear hw8 hfd
      go_wp2_with fail
      refine (st_wrong_nil _).mono ?_
      rintro e w8 ⟨rfl, hw8⟩
      obtain rfl := hw8.symm
      clear hw8
      go_wp2_with fail
      refine (hnm _).mono ?_
      rintro e w8 ⟨rfl, hw8⟩
      obtain rfl := hw8.symm
      clear hw8 hnm
      go_wp2_with fail
      go_ret
      exact ⟨ret_bool (by first | decide | (rw [ByteArray.toList_eq]; decide)), HB7.out⟩
    · have hc0 := HC.out 1 _ rfl
      clear HN HC
      go_wp2_with fail
      refine (st_order_nil _ _).mono ?_
      rintro e w5 ⟨rfl, hB5⟩
      have HB5 : Hid (Below w.heap.size w w5) := HB4.out.trans (below_le hB5 HB4.out.size)
      clear hc0 hlo hB5
      go_wp2_with fail
      refine (st_told_nil _).mono ?_
      rintro e w6 ⟨rfl, hw6⟩
      obtain rfl := hw6.symm
      clear hw6
      go_wp2_with fail
      refine (st_next_nil _).mono ?_
      rintro e w7 ⟨rfl, hB7⟩
      have HB7 : Hid (Below w.heap.size w w7) := HB5.out.trans (below_le hB7 HB5.out.size)
      have hfd := field_kd 0 0 false false 0 0 false (.slice none 0 0) w7
      clear hB7
      go_wp2_with fail
      refine (st_fails_nil _).mono ?_
      rintro e w8 ⟨rfl, hw8⟩
      obtain rfl := hw8.symm
      clear hw8 hfd
      go_wp2_with fail
      refine (st_wrong_nil _).mono ?_
      rintro e w8 ⟨rfl, hw8⟩
      obtain rfl := hw8.symm
      clear hw8
      go_wp2_with fail
      refine (hnm _).mono ?_
      rintro e w8 ⟨rfl, hw8⟩
      obtain rfl := hw8.symm
      clear hw8 hnm
      go_wp2_with fail
      go_ret
      exact ⟨ret_bool (by first | decide | (rw [ByteArray.toList_eq]; decide)), HB7.out⟩
    · have hc0 := HC.out 2 _ rfl
      clear HN HC
      go_wp2_with fail
      refine (st_order_nil _ _).mono ?_
      rintro e w5 ⟨rfl, hB5⟩
      have HB5 : Hid (Below w.heap.size w w5) := HB4.out.trans (below_le hB5 HB4.out.size)
      clear hc0 hlo hB5
      go_wp2_with fail
      refine (st_told_nil _).mono ?_
      rintro e w6 ⟨rfl, hw6⟩
      obtain rfl := hw6.symm
      clear hw6
      go_wp2_with fail
      refine (st_next_nil _).mono ?_
      rintro e w7 ⟨rfl, hB7⟩
      have HB7 : Hid (Below w.heap.size w w7) := HB5.out.trans (below_le hB7 HB5.out.size)
      have hfd := field_kd 0 0 false false 0 0 false (.slice none 0 0) w7
      clear hB7
      go_wp2_with fail
      refine (st_fails_nil _).mono ?_
      rintro e w8 ⟨rfl, hw8⟩
      obtain rfl := hw8.symm
      clear hw8 hfd
      go_wp2_with fail
      refine (st_wrong_nil _).mono ?_
      rintro e w8 ⟨rfl, hw8⟩
      obtain rfl := hw8.symm
      clear hw8
      go_wp2_with fail
      refine (hnm _).mono ?_
      rintro e w8 ⟨rfl, hw8⟩
      obtain rfl := hw8.symm
      clear hw8 hnm
      go_wp2_with fail
      go_ret
      exact ⟨ret_bool (by first | decide | (rw [ByteArray.toList_eq]; decide)), HB7.out⟩
    · have hc0 := HC.out 3 _ rfl
      clear HN HC
      go_wp2_with fail
      refine (st_order_nil _ _).mono ?_
      rintro e w5 ⟨rfl, hB5⟩
      have HB5 : Hid (Below w.heap.size w w5) := HB4.out.trans (below_le hB5 HB4.out.size)
      clear hc0 hlo hB5
      go_wp2_with fail
      refine (st_told_nil _).mono ?_
      rintro e w6 ⟨rfl, hw6⟩
      obtain rfl := hw6.symm
      clear hw6
      go_wp2_with fail
      refine (st_next_nil _).mono ?_
      rintro e w7 ⟨rfl, hB7⟩
      have HB7 : Hid (Below w.heap.size w w7) := HB5.out.trans (below_le hB7 HB5.out.size)
      have hfd := field_kd 0 0 false false 0 0 false (.slice none 0 0) w7
      clear hB7
      go_wp2_with fail
      refine (st_fails_nil _).mono ?_
      rintro e w8 ⟨rfl, hw8⟩
      obtain rfl := hw8.symm
      clear hw8 hfd
      go_wp2_with fail
      refine (st_wrong_nil _).mono ?_
      rintro e w8 ⟨rfl, hw8⟩
      obtain rfl := hw8.symm
      clear hw8
      go_wp2_with fail
      refine (hnm _).mono ?_
      rintro e w8 ⟨rfl, hw8⟩
      obtain rfl := hw8.symm
      clear hw8 hnm
      go_wp2_with fail
      go_ret
      exact ⟨ret_bool (by first | decide | (rw [ByteArray.toList_eq]; decide)), HB7.out⟩
    · have hc0 := HC.out 4 _ rfl
      clear HN HC
      go_wp2_with fail
      refine (st_order_nil _ _).mono ?_
      rintro e w5 ⟨rfl, hB5⟩
      have HB5 : Hid (Below w.heap.size w w5) := HB4.out.trans (below_le hB5 HB4.out.size)
      clear hc0 hlo hB5
      go_wp2_with fail
      refine (st_told_nil _).mono ?_
      rintro e w6 ⟨rfl, hw6⟩
      obtain rfl := hw6.symm
      clear hw6
      go_wp2_with fail
      refine (st_next_nil _).mono ?_
      rintro e w7 ⟨rfl, hB7⟩
      have HB7 : Hid (Below w.heap.size w w7) := HB5.out.trans (below_le hB7 HB5.out.size)
      have hfd := field_kd 0 0 false false 0 0 false (.slice none 0 0) w7
      clear hB7
      go_wp2_with fail
      refine (st_fails_nil _).mono ?_
      rintro e w8 ⟨rfl, hw8⟩
      obtain rfl := hw8.symm
      clear hw8 hfd
      go_wp2_with fail
      refine (st_wrong_nil _).mono ?_
      rintro e w8 ⟨rfl, hw8⟩
      obtain rfl := hw8.symm
      clear hw8
      go_wp2_with fail
      refine (hnm _).mono ?_
      rintro e w8 ⟨rfl, hw8⟩
      obtain rfl := hw8.symm
      clear hw8 hnm
      go_wp2_with fail
      go_ret
      exact ⟨ret_bool (by first | decide | (rw [ByteArray.toList_eq]; decide)), HB7.out⟩
    · have hc0 := HC.out 5 _ rfl
      clear HN HC
      go_wp2_with fail
      refine (st_order_nil _ _).mono ?_
      rintro e w5 ⟨rfl, hB5⟩
      have HB5 : Hid (Below w.heap.size w w5) := HB4.out.trans (below_le hB5 HB4.out.size)
      clear hc0 hlo hB5
      go_wp2_with fail
      refine (st_told_nil _).mono ?_
      rintro e w6 ⟨rfl, hw6⟩
      obtain rfl := hw6.symm
      clear hw6
      go_wp2_with fail
      refine (st_next_nil _).mono ?_
      rintro e w7 ⟨rfl, hB7⟩
      have HB7 : Hid (Below w.heap.size w w7) := HB5.out.trans (below_le hB7 HB5.out.size)
      have hfd := field_kd 0 0 false false 0 0 false (.slice none 0 0) w7
      clear hB7
      go_wp2_with fail
      refine (st_fails_nil _).mono ?_
      rintro e w8 ⟨rfl, hw8⟩
      obtain rfl := hw8.symm
      clear hw8 hfd
      go_wp2_with fail
      refine (st_wrong_nil _).mono ?_
      rintro e w8 ⟨rfl, hw8⟩
      obtain rfl := hw8.symm
      clear hw8
      go_wp2_with fail
      refine (hnm _).mono ?_
      rintro e w8 ⟨rfl, hw8⟩
      obtain rfl := hw8.symm
      clear hw8 hnm
      go_wp2_with fail
      go_ret
      exact ⟨ret_bool (by first | decide | (rw [ByteArray.toList_eq]; decide)), HB7.out⟩
    · have hc0 : decide (s < 6) = false := decide_eq_false (by omega)
      have e : stnam s = ⟨#[]⟩ := by unfold stnam; rw [if_neg (by omega), if_neg (by omega), if_neg (by omega), if_neg (by omega), if_neg (by omega), if_neg (by omega)]
      rw [e] at hnm
      clear e h6 h0 h1
      clear HN HC
      go_wp2_with fail
      refine (st_order_nil _ _).mono ?_
      rintro e w5 ⟨rfl, hB5⟩
      have HB5 : Hid (Below w.heap.size w w5) := HB4.out.trans (below_le hB5 HB4.out.size)
      clear hc0 hlo hB5
      go_wp2_with fail
      refine (st_told_nil _).mono ?_
      rintro e w6 ⟨rfl, hw6⟩
      obtain rfl := hw6.symm
      clear hw6
      go_wp2_with fail
      refine (st_next_nil _).mono ?_
      rintro e w7 ⟨rfl, hB7⟩
      have HB7 : Hid (Below w.heap.size w w7) := HB5.out.trans (below_le hB7 HB5.out.size)
      have hfd := field_kd 0 0 false false 0 0 false (.slice none 0 0) w7
      clear hB7
      go_wp2_with fail
      refine (st_fails_nil _).mono ?_
      rintro e w8 ⟨rfl, hw8⟩
      obtain rfl := hw8.symm
      clear hw8 hfd
      go_wp2_with fail
      refine (st_wrong_nil _).mono ?_
      rintro e w8 ⟨rfl, hw8⟩
      obtain rfl := hw8.symm
      clear hw8
      go_wp2_with fail
      refine (hnm _).mono ?_
      rintro e w8 ⟨rfl, hw8⟩
      obtain rfl := hw8.symm
      clear hw8 hnm
      go_wp2_with fail
      go_ret
      exact ⟨ret_bool (by first | decide | (rw [ByteArray.toList_eq]; decide)), HB7.out⟩
end Go.Proofs.YtldjglmelbkngaaGreat.Tape
