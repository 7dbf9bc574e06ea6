/- The contracts of an Ear's Counting, seek, judge. -/
import Derived.Test.YtfjfnfofbhikdaaEar1
namespace Go.Proofs.Ytfjfnfofbhikdaa.Tape
open Go.ChangeShapes Go.WideShapes Go.ChangeAt Go.RowKit

set_option maxHeartbeats 400000 in
theorem counting_any (B b : Nat) (v : Value) (s : Ear) (w : World) (h : EarAt w B b v s) : Calls Try.prog 26 #[.pointer (some ⟨b, 0, none⟩)] w fun e w' => e = .returned (.bool s.lost) ∧ w' = w := by
  obtain ⟨⟨h0, -⟩, -⟩ := ear_cells h.cells
  generalize s.lost = l at h0
  cases l
  all_goals
    go_enter Try.func26, Try.ntmps26
    go_wp2
    go_ret
    exact ⟨rfl, rfl⟩

set_option maxRecDepth 100000 in
set_option maxHeartbeats 400000 in
theorem seek_flag (b : Nat) (f v c r : Value) (w : World) (h : w.heap[b]? = some (.cells #[f, v, c, r] 48 (0, 0))) :
    Calls Try.prog 41 #[.pointer (some ⟨b, 0, none⟩), .bool true] w fun e w' => Told w w' b v none e ∧ w'.heap[b]? = some (.cells #[.bool true, v, c, r] 48 (0, 0)) ∧ w.grownBy w' (some b) := by
  obtain ⟨⟨h0, h1, h2, h3⟩, z0, z1, z2, z3⟩ := ear_cells h
  have hlt := heap_lt h
  have H : Hid (w.heap[b]? = some (.cells #[f, v, c, r] 48 (0, 0))) := h
  clear h
  go_enter Try.func41, Try.ntmps41
  go_wp2
  refine bodyPost_ret (v := .tuple #[.agg #[.int .u8 0, .slice none 0 0], .bool false]) (by simp [results, Try.results41, go_sem]) rfl ⟨Told.plain 0 false rfl rfl, heap_more (ear_set0 H.out _) _, gb_alloc (gb_set _) _⟩

set_option maxRecDepth 100000 in
set_option maxHeartbeats 400000 in
theorem seek_cnt (b : Nat) (f v r : Value) (c : Nat) (w : World) (hc : c + 1 < 128) (h : w.heap[b]? = some (.cells #[f, v, .int .i64 c, r] 48 (0, 0))) :
    Calls Try.prog 41 #[.pointer (some ⟨b, 0, none⟩), .bool false] w fun e w' => Told w w' b v none e ∧ w'.heap[b]? = some (.cells #[f, v, .int .i64 ((c + 1 : Nat) : Int), r] 48 (0, 0)) ∧ w.grownBy w' (some b) := by
  obtain ⟨⟨h0, h1, h2, h3⟩, z0, z1, z2, z3⟩ := ear_cells h
  have hlt := heap_lt h
  have H : Hid (w.heap[b]? = some (.cells #[f, v, .int .i64 c, r] 48 (0, 0))) := h
  clear h
  go_enter Try.func41, Try.ntmps41
  go_wp2
  refine bodyPost_ret (v := .tuple #[.agg #[.int .u8 0, .slice none 0 0], .bool false]) (by simp [results, Try.results41, go_sem]) rfl ⟨Told.plain 0 false rfl rfl, heap_more (ear_set2 H.out _) _, gb_alloc (gb_set _) _⟩

set_option maxRecDepth 100000 in
set_option maxHeartbeats 400000 in
theorem seek_block (b : Nat) (f v r : Value) (c : Nat) (w : World) (hc : ¬ c + 1 < 128) (hc2 : c < 128) (h : w.heap[b]? = some (.cells #[f, v, .int .i64 c, r] 48 (0, 0))) :
    Calls Try.prog 41 #[.pointer (some ⟨b, 0, none⟩), .bool false] w fun e w' => Told w w' b v (some (2, [])) e ∧ w'.heap[b]? = some (.cells #[f, v, .int .i64 0, r] 48 (0, 0)) ∧ w.grownBy w' (some b) := by
  obtain ⟨⟨h0, h1, h2, h3⟩, z0, z1, z2, z3⟩ := ear_cells h
  have hlt := heap_lt h
  have H : Hid (w.heap[b]? = some (.cells #[f, v, .int .i64 c, r] 48 (0, 0))) := h
  clear h
  go_enter Try.func41, Try.ntmps41
  go_wp2
  refine bodyPost_ret (v := .tuple #[.agg #[.int .u8 2, .slice none 0 0], .bool true]) (by simp [results, Try.results41, go_sem]) rfl ⟨Told.plain 2 true rfl rfl, heap_more (ear_set2 (ear_set2 H.out _) _) _, gb_alloc ((gb_set _).trans (gb_set _)) _⟩

theorem hd_none {k : List Bool} (h : k.length ≤ 8) : hd k = none := by unfold hd; rw [if_pos h]
theorem hd_some {k : List Bool} {n : Nat} {J : List Int × Nat} (hn : k.length = n) (h : ¬ n ≤ 8) (hJ : jdg (k.take (n - 8)) = J) : hd k = if J.2 = 0 then some (0, J.1) else some (1, []) := by
  subst hn; unfold hd; rw [if_neg h, hJ]

set_option maxRecDepth 100000 in
set_option maxHeartbeats 1000000 in
theorem judge_ear (B b g n cap : Nat) (f c r : Value) (ks : List Bool) (w : World) (hn : ks.length = n) (hl : n ≤ 3000) (hcap : n ≤ cap) (h : w.heap[b]? = some (.cells #[f, .slice (some ⟨g, 0, none⟩) n cap, c, r] 48 (0, 0)))
    (hown : w.ownsRow B 4 1 (.slice (some ⟨g, 0, none⟩) n cap) n (ks.map .bool)) (hgb : g ≠ b) :
    Calls Try.prog 48 #[.pointer (some ⟨b, 0, none⟩)] w fun e w' => Told w w' b (.slice (some ⟨g, 0, none⟩) 0 cap) (hd ks) e ∧ w'.heap[b]? = some (.cells #[f, .slice (some ⟨g, 0, none⟩) 0 cap, c, r] 48 (0, 0)) ∧ w.grownBy w' (some b) := by
  obtain ⟨⟨h0, h1, h2, h3⟩, z0, z1, z2, z3⟩ := ear_cells h
  have hlt := heap_lt h
  have H : Hid (w.heap[b]? = some (.cells #[f, .slice (some ⟨g, 0, none⟩) n cap, c, r] 48 (0, 0))) := h
  have HN : Hid (ks.length = n) := hn
  have hr := Reads.of_owns hown
  have hgl := (hown.lt g rfl).2
  clear h hn
  by_cases h8 : n ≤ 8
  · have HD : Hid (hd ks = none) := hd_none (by rw [HN.out]; exact h8)
    go_enter Try.func48, Try.ntmps48
    go_wp2
    refine bodyPost_ret (v := .tuple #[.agg #[.int .u8 0, .slice none 0 0], .bool false]) (by simp [results, Try.results48, go_sem]) rfl ⟨?_, heap_more (ear_set1 H.out _) _, gb_alloc (gb_set _) _⟩
    rw [HD.out]
    exact Told.plain 0 false rfl rfl
  · obtain ⟨m, hm⟩ : ∃ m, n = m + 8 := ⟨n - 8, by omega⟩
    have em : (n : Int) - 8 = (m : Int) := by omega
    have hmc : m ≤ cap := by omega
    obtain ⟨J, hJ⟩ : ∃ J, jdg (ks.take m) = J := ⟨_, rfl⟩
    have HJ : Hid (jdg (ks.take m) = J) := hJ
    have HT : Hid ((ks.take m).length = m) := by show _ = _; rw [List.length_take, HN.out]; omega
    have HD : Hid (hd ks = if J.2 = 0 then some (0, J.1) else some (1, [])) := hd_some HN.out h8 (by rw [show n - 8 = m by omega]; exact hJ)
    have hr2 := hr.take m
    rw [← List.map_take] at hr2
    clear hJ hm hr
    go_enter Try.func48, Try.ntmps48
    go_wp2_with fail
    have hW := heap_alloc_new (w.setCell ⟨b, 1, none⟩ (.slice (some ⟨g, 0, none⟩) 0 cap)) (.cells #[.int .u8 0, .slice none 0 0] 57)
    have hsW : (w.setCell ⟨b, 1, none⟩ (.slice (some ⟨g, 0, none⟩) 0 cap)).heap.size = w.heap.size := by simp [World.setCell]
    rw [hsW] at hW
    have HG : Hid (w.grownBy ((w.setCell ⟨b, 1, none⟩ (.slice (some ⟨g, 0, none⟩) 0 cap)).alloc (.cells #[.int .u8 0, .slice none 0 0] 57)) (some b)) := gb_alloc (gb_set _) _
    have HE : Hid (((w.setCell ⟨b, 1, none⟩ (.slice (some ⟨g, 0, none⟩) 0 cap)).alloc (.cells #[.int .u8 0, .slice none 0 0] 57)).heap[b]? = some (.cells #[f, .slice (some ⟨g, 0, none⟩) 0 cap, c, r] 48 (0, 0))) := heap_more (ear_set1 H.out _) _
    have hsA : ((w.setCell ⟨b, 1, none⟩ (.slice (some ⟨g, 0, none⟩) 0 cap)).alloc (.cells #[.int .u8 0, .slice none 0 0] 57)).heap.size = w.heap.size + 1 := by simp [World.setCell]
    clear hsW
    generalize (w.setCell ⟨b, 1, none⟩ (.slice (some ⟨g, 0, none⟩) 0 cap)).alloc (.cells #[.int .u8 0, .slice none 0 0] 57) = W at hW HG HE hsA
    have hr3 : Reads W (some ⟨g, 0, none⟩) ((ks.take m).map .bool) := (Away.reads (w := w) (b := b) (v := .slice none 0 0) (fun x hx => by cases hx; exact ⟨hgl, hgb, by simp [Value.ownBlock]⟩) (Fr.of_b HG.out) hr2)
    refine (judge_any _ _ _ _ J _ HT.out (by omega) HJ.out hr3).mono ?_
    rintro e w2 ⟨vo, k, ca, rfl, hk, hkc, hrd, hli, hvn, hbl⟩
    have hH2 := (hbl.block w.heap.size (by omega)).trans hW
    have c0 : w2.cell? ⟨w.heap.size, 0, none⟩ = some (.int .u8 0) := by rw [Lib.cell_of_heap hH2]; rfl
    have c1 : w2.cell? ⟨w.heap.size, 1, none⟩ = some (.slice none 0 0) := by rw [Lib.cell_of_heap hH2]; rfl
    have f0 := Lib.frozen_of_heap hH2 0
    have f1 := Lib.frozen_of_heap hH2 1
    have HE2 : Hid (w2.heap[b]? = some (.cells #[f, .slice (some ⟨g, 0, none⟩) 0 cap, c, r] 48 (0, 0))) := (hbl.block b (by omega)).trans HE.out
    have HG2 : Hid (w.grownBy w2 (some b)) := gb_below HG.out hbl
    have HL : Hid (Lies w2 (w.heap.size + 1) vo) := by rw [hsA] at hli; exact hli
    have HR : Hid (Reads w2 vo (J.1.map (.int .u8))) := hrd
    have hs2 : w.heap.size < w2.heap.size := by have := hbl.size; omega
    clear hH2 hW HG HE hbl hrd hli hr3 hr2 hsA hown h0 h1 h2 h3 z0 z1 z2 z3
    obtain ⟨ys, E⟩ := J
    have HK : Hid (ys.length = k) := hk
    clear hk
    simp only at HR
    have hlt2 : b < w2.heap.size := by omega
    by_cases hE : E = 0
    · subst hE
      go_wp2
      have hgo : w2.grownBy ((w2.setCell ⟨w.heap.size, 0, none⟩ (.int .u8 0)).setCell ⟨w.heap.size, 1, none⟩ (.slice vo k ca)) (some w.heap.size) := gb_out _ _
      refine bodyPost_ret (v := .tuple #[.agg #[.int .u8 0, .slice vo k ca], .bool true]) (by simp [results, Try.results48, go_sem, c0, c1]) rfl ⟨?_, (hgo.block b hlt2 (by simp; omega)).trans HE2.out, gb_new HG2.out hgo (Nat.le_refl _)⟩
      rw [HD.out, if_pos (by trivial)]
      exact ⟨vo, k, ca, rfl, HK.out, hkc, reads_gb HL.out (by omega) hgo HR.out, HL.out.mono (by omega) hgo.size, fun x hx => ⟨Nat.lt_of_lt_of_le (HL.out x hx).2 hgo.size, by have := (HL.out x hx).1; omega, by have := (HL.out x hx).1; simp [Value.ownBlock]; omega⟩, hvn⟩
    · have hE' : ((E : Int) != 0) = true := by rw [bne_iff_ne]; omega
      go_wp2
      have hgo : w2.grownBy ((w2.setCell ⟨w.heap.size, 0, none⟩ (.int .u8 1)).setCell ⟨w.heap.size, 1, none⟩ (.slice none 0 0)) (some w.heap.size) := gb_out _ _
      refine bodyPost_ret (v := .tuple #[.agg #[.int .u8 1, .slice none 0 0], .bool true]) (by simp [results, Try.results48, go_sem, c0, c1]) rfl ⟨?_, (hgo.block b hlt2 (by simp; omega)).trans HE2.out, gb_new HG2.out hgo (Nat.le_refl _)⟩
      rw [HD.out, if_neg hE]
      exact Told.plain 1 true rfl rfl
end Go.Proofs.Ytfjfnfofbhikdaa.Tape
