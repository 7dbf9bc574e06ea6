/- The contract of an Ear's keep. -/
import Derived.Test.YtfjfnfofbhikdaaEar2
namespace Go.Proofs.Ytfjfnfofbhikdaa.Tape
open Go.ChangeShapes Go.WideShapes Go.ChangeAt Go.RowKit

/-- What keep leaves: the answer, the ear's cells, its row. -/
def Kept (w w' : World) (B b : Nat) (v : Value) (o : Option (Nat × List Int)) (f c r : Value) (ks : List Bool) (e : Ending) : Prop :=
  ∃ v', Told w w' b v' o e ∧ w'.heap[b]? = some (.cells #[f, v', c, r] 48 (0, 0)) ∧ w'.ownsRow B 4 1 v' ks.length (ks.map .bool) ∧ v'.ownBlock ≠ some b ∧ Fr b v w w' ∧ Moved w v v'

theorem news_one (w : World) (o1 : Obj) (x : Value) (t : TypeId) : ∀ j u, [x][j]? = some u → ((w.alloc o1).alloc (.cells #[x] t)).cell? ((⟨w.heap.size + 1, 0, none⟩ : Addr).add j) = some u := by
  intro j u hj
  have := cell_one_new (w.alloc o1) x t j u hj
  simpa using this

/-- What stands behind the append: the ear's cells and the result's are as they were. -/
theorem kept_grown {w w1 : World} {b : Nat} {v : Value} {o : Obj} (h : w.heap[b]? = some o) (hvb : v.ownBlock ≠ some b) (hv : ∀ k, v.ownBlock = some k → k < w.heap.size) {o1 o2 : Obj} (hg : ((w.alloc o1).alloc o2).grownBy w1 v.ownBlock) :
    w1.heap[b]? = some o ∧ w1.heap[w.heap.size]? = some o1 ∧ w.heap.size + 2 ≤ w1.heap.size ∧ Fr b v w w1 := by
  have hlt := heap_lt h
  refine ⟨(hg.block b (by simp; omega) (fun e => hvb e.symm)).trans (heap_more (heap_more h _) _), (hg.block w.heap.size (by simp; omega) (fun e => by have := hv _ e.symm; omega)).trans (heap_more (heap_alloc_new w o1) _), by have := hg.size; simpa using this, ?_⟩
  exact ⟨hg.os, hg.tape, hg.output, by have := hg.size; simp at this; omega, fun k hk _ hne => (hg.block k (by simp; omega) (fun e => hne e.symm)).trans ((Below.heap_alloc _ _ _ (by simp; omega)).trans (Below.heap_alloc _ _ _ hk))⟩
theorem moved_app {w : World} {v : Value} {g n cap : Nat} (h : v.ownBlock = some g ∨ g = w.heap.size + 2) : Moved w v (.slice (some ⟨g, 0, none⟩) n cap) := fun k hk => by
  simp only [Value.ownBlock, Option.some.injEq] at hk
  subst hk
  rcases h with h | h
  · exact .inl h
  · exact .inr (by omega)
theorem owns_cap {w : World} {B e n cap : Nat} {a : Option Addr} {xs : List Value} (h : w.ownsRow B e 1 (.slice a n cap) n xs) : n ≤ cap := by
  rcases h.2 with ⟨hv, h0⟩ | ⟨g, cap', cur, hv, _, _, hc, _⟩
  · omega
  · simp only [Value.slice.injEq, true_and] at hv; omega

theorem kept_fin {w w1 Y : World} {B b g n cap : Nat} {v f c r : Value} {ks : List Bool} (hY : Y.heap[b]? = some (.cells #[f, .slice (some ⟨g, 0, none⟩) n cap, c, r] 48 (0, 0))) (hn : ks.length = n)
    (hown : w1.ownsRow B 4 1 (.slice (some ⟨g, 0, none⟩) n cap) n (ks.map .bool)) (hG : w1.grownBy Y (some b)) (hgb : g ≠ b) (hgH : g ≠ w.heap.size) (hHb : w.heap.size ≠ b) (hF : Fr b v w w1) (hm : Moved w v (.slice (some ⟨g, 0, none⟩) n cap)) :
    Kept w ((Y.setCell ⟨w.heap.size, 0, none⟩ (.int .u8 0)).setCell ⟨w.heap.size, 1, none⟩ (.slice none 0 0)) B b v none f c r ks (.returned (.tuple #[.agg #[.int .u8 0, .slice none 0 0], .bool false])) := by
  have hgo : Y.grownBy ((Y.setCell ⟨w.heap.size, 0, none⟩ (.int .u8 0)).setCell ⟨w.heap.size, 1, none⟩ (.slice none 0 0)) (some w.heap.size) := gb_out _ _
  refine ⟨_, Told.plain 0 false rfl rfl, (hgo.block b (heap_lt hY) (by simpa using hHb.symm)).trans hY, ?_, by simpa [Value.ownBlock] using hgb, fr_new (Fr.trans hF (Moved.refl w v) (Fr.of_b hG)) hgo (Nat.le_refl _), hm⟩
  rw [hn]
  have hl := (hown.lt g rfl).2
  refine owns_far (w := Y) (owns_far (w := w1) hown (fun k hk => ?_)) (fun k hk => ?_)
  · simp [Value.ownBlock] at hk; subst hk; exact hG.block g hl (by simpa using hgb)
  · simp [Value.ownBlock] at hk; subst hk; exact hgo.block g (Nat.lt_of_lt_of_le hl hG.size) (by simpa using hgH)

set_option maxRecDepth 100000 in
set_option maxHeartbeats 1000000 in
theorem keep_end (B b n r : Nat) (f v c : Value) (on : Bool) (ks : List Bool) (w : World) (hn : ks.length = n) (hl : n ≤ 2700) (h : w.heap[b]? = some (.cells #[f, v, c, .int .i64 r] 48 (0, 0)))
    (hown : w.ownsRow B 4 1 v n (ks.map .bool)) (hvb : v.ownBlock ≠ some b) (hBb : B ≤ b) :
    Calls Try.prog 40 #[.pointer (some ⟨b, 0, none⟩), .bool on, .bool true] w fun e w' => Kept w w' B b v (hd (ks ++ [on])) f c (.int .i64 r) [] e := by
  obtain ⟨i0, hi, hz0, hz1, hz2⟩ := info_parts info4
  obtain ⟨⟨h0, h1, h2, h3⟩, z0, z1, z2, z3⟩ := ear_cells h
  have hlt := heap_lt h
  have H : Hid (w.heap[b]? = some (.cells #[f, v, c, .int .i64 r] 48 (0, 0))) := h
  have HN : Hid (ks.length = n) := hn
  have hvl : ∀ k, v.ownBlock = some k → k < w.heap.size := fun k hk => (hown.lt k hk).2
  clear h hn
  go_enter Try.func40, Try.ntmps40
  go_wp2_with (at_builtin; refine wpList_append_lies _ rfl _ _ 27 rfl B 4 i0 (.bool false) 1 1 Try.underlying27 hi hz0 hz1 hz2 rfl (by decide) v n (ks.map .bool) rfl ((hown.alloc _).alloc _) ⟨w.heap.size + 1, 0, none⟩ 1 1 [.bool on] rfl rfl (news_one _ _ _ _) (by simp [Value.oneCell']) (by omega) (by unfold maxLen; omega) (by omega) (by simp; omega) (w.heap.size + 2) (by simp) ?_; intro g cap w1 hown1 hgrow1 hat1 hlt1; obtain ⟨hE1, hR1, hs1, hF1⟩ := kept_grown H.out hvb hvl hgrow1; have hcap1 : n + 1 ≤ cap := owns_cap hown1; obtain ⟨⟨k0, k1, k2, k3⟩, y0, y1, y2, y3⟩ := ear_cells hE1; have r0 : w1.cell? ⟨w.heap.size, 0, none⟩ = some (.int .u8 0) := (by rw [Lib.cell_of_heap hR1]; rfl); have r1 : w1.cell? ⟨w.heap.size, 1, none⟩ = some (.slice none 0 0) := (by rw [Lib.cell_of_heap hR1]; rfl); have q0 := Lib.frozen_of_heap hR1 0; have q1 := Lib.frozen_of_heap hR1 1; have HE1 : Hid (w1.heap[b]? = some (.cells #[f, v, c, .int .i64 r] 48 (0, 0))) := hE1; have HR1 : Hid (w1.heap[w.heap.size]? = some (.cells #[.int .u8 0, .slice none 0 0] 57 (0, 0))) := hR1; clear hE1 hR1 hgrow1 h0 h1 h2 h3 z0 z1 z2 z3)
  have hgb : g ≠ b := fun e => by subst e; rcases hat1 with h | h; exact hvb h; omega
  have hgH : g ≠ w.heap.size := fun e => by subst e; rcases hat1 with h | h; exact absurd (hvl _ h) (by omega); omega
  have hHb : w.heap.size ≠ b := by omega
  have hWs : (w1.setCell ⟨b, 1, none⟩ (.slice (some ⟨g, 0, none⟩) (n + 1) cap)).heap.size = w1.heap.size := by simp [World.setCell]
  have HE : Hid ((w1.setCell ⟨b, 1, none⟩ (.slice (some ⟨g, 0, none⟩) (n + 1) cap)).heap[b]? = some (.cells #[f, .slice (some ⟨g, 0, none⟩) (n + 1) cap, c, .int .i64 r] 48 (0, 0))) := ear_set1 HE1.out _
  have HO : Hid ((w1.setCell ⟨b, 1, none⟩ (.slice (some ⟨g, 0, none⟩) (n + 1) cap)).ownsRow B 4 1 (.slice (some ⟨g, 0, none⟩) (n + 1) cap) (n + 1) ((ks ++ [on]).map .bool)) := by
    have := owns_far (w' := w1.setCell ⟨b, 1, none⟩ (.slice (some ⟨g, 0, none⟩) (n + 1) cap)) hown1 (fun k hk => Below.heap_setCell _ _ _ _ (by simp [Value.ownBlock] at hk; subst hk; exact hgb))
    rw [List.map_append]; exact this
  have HRR : Hid ((w1.setCell ⟨b, 1, none⟩ (.slice (some ⟨g, 0, none⟩) (n + 1) cap)).heap[w.heap.size]? = some (.cells #[.int .u8 0, .slice none 0 0] 57 (0, 0))) := (Below.heap_setCell _ _ _ _ hHb).trans HR1.out
  have HG : Hid (w1.grownBy (w1.setCell ⟨b, 1, none⟩ (.slice (some ⟨g, 0, none⟩) (n + 1) cap)) (some b)) := gb_set _
  clear hown1 k0 k1 k2 k3 y0 y1 y2 y3 r0 r1 q0 q1 HR1 HE1
  generalize w1.setCell ⟨b, 1, none⟩ (.slice (some ⟨g, 0, none⟩) (n + 1) cap) = W at hWs HE HO HRR HG
  refine (judge_ear B b g (n + 1) cap f c (.int .i64 r) (ks ++ [on]) W (by simp [HN.out]) (by omega) hcap1 HE.out HO.out hgb).mono ?_
  obtain ⟨o, ho⟩ : ∃ o, o = hd (ks ++ [on]) := ⟨_, rfl⟩
  rw [← ho]
  have HD : Hid (o = hd (ks ++ [on])) := ho
  clear ho
  rintro e w3 ⟨⟨vo, m, ca, rfl, hm, hmc, hrd, hli, haw, hvn⟩, hE3, hg3⟩
  obtain ⟨K, hK⟩ : ∃ K : Nat, (o.getD (0, [])).1 = K := ⟨_, rfl⟩
  obtain ⟨D, hD⟩ : ∃ D : Bool, o.isSome = D := ⟨_, rfl⟩
  have HK : Hid ((o.getD (0, [])).1 = K) := hK
  have HDD : Hid (o.isSome = D) := hD
  rw [hK, hD]
  have hR3 := (hg3.block w.heap.size (by omega) (by simpa using hHb)).trans HRR.out
  have c0 : w3.cell? ⟨w.heap.size, 0, none⟩ = some (.int .u8 0) := by rw [Lib.cell_of_heap hR3]; rfl
  have c1 : w3.cell? ⟨w.heap.size, 1, none⟩ = some (.slice none 0 0) := by rw [Lib.cell_of_heap hR3]; rfl
  have f0 := Lib.frozen_of_heap hR3 0
  have f1 := Lib.frozen_of_heap hR3 1
  have HE3 : Hid (w3.heap[b]? = some (.cells #[f, .slice (some ⟨g, 0, none⟩) 0 cap, c, .int .i64 r] 48 (0, 0))) := hE3
  have HG3 : Hid (W.grownBy w3 (some b)) := hg3
  have HM : Hid ((o.getD (0, [])).2.length = m) := hm
  have HRD : Hid (Reads w3 vo ((o.getD (0, [])).2.map (.int .u8))) := hrd
  have HL : Hid (Lies w3 W.heap.size vo) := hli
  have HA : Hid (Away w3 b (.slice (some ⟨g, 0, none⟩) 0 cap) vo) := haw
  clear hE3 hg3 hm hrd hli haw hR3 hK hD HRR HE
  go_wp2
  have hgo : w3.grownBy ((w3.setCell ⟨w.heap.size, 0, none⟩ (.int .u8 K)).setCell ⟨w.heap.size, 1, none⟩ (.slice vo m ca)) (some w.heap.size) := gb_out _ _
  refine bodyPost_ret (v := .tuple #[.agg #[.int .u8 K, .slice vo m ca], .bool D]) (by simp [results, Try.results40, go_sem, c0, c1]) rfl ?_
  rw [← HD.out]
  have hb3 : b < w3.heap.size := heap_lt HE3.out
  have hg3l : g < w3.heap.size := Nat.lt_of_lt_of_le (HO.out.lt g rfl).2 HG3.out.size
  refine ⟨.slice (some ⟨g, 0, none⟩) 0 cap, ⟨vo, m, ca, by rw [HK.out, HDD.out], HM.out, hmc, reads_gb HL.out (by omega) hgo HRD.out, HL.out.mono (by omega) hgo.size, fun x hx => ⟨Nat.lt_of_lt_of_le (HA.out x hx).1 hgo.size, (HA.out x hx).2⟩, hvn⟩, (hgo.block b hb3 (by simp; omega)).trans HE3.out, ?_, by simp [Value.ownBlock]; exact hgb, ?_, moved_app hat1⟩
  · refine owns_far (w := w3) (owns_far (w := W) (owns_empty HO.out) (fun k hk => ?_)) (fun k hk => ?_)
    · simp [Value.ownBlock] at hk; subst hk; exact HG3.out.block g (HO.out.lt g rfl).2 (by simpa using hgb)
    · simp [Value.ownBlock] at hk; subst hk; exact hgo.block g hg3l (by simpa using hgH)
  · exact fr_new (Fr.trans hF1 (Moved.refl w v) (Fr.of_b (HG.out.trans HG3.out))) hgo (Nat.le_refl _)

set_option maxRecDepth 100000 in
set_option maxHeartbeats 1000000 in
theorem keep_lose (B b n r : Nat) (f v c : Value) (on : Bool) (ks : List Bool) (w : World) (hn : ks.length = n) (hl : n ≤ 2700) (h : w.heap[b]? = some (.cells #[f, v, c, .int .i64 r] 48 (0, 0)))
    (hown : w.ownsRow B 4 1 v n (ks.map .bool)) (hvb : v.ownBlock ≠ some b) (hBb : B ≤ b) (hc : r = 7 ∨ (on = false ∧ 2687 < n + 1)) :
    Calls Try.prog 40 #[.pointer (some ⟨b, 0, none⟩), .bool on, .bool false] w fun e w' => Kept w w' B b v none (.bool false) (.int .i64 0) (.int .i64 r) [] e := by
  by_cases h7 : r = 7
  · subst h7
    clear hc
    obtain ⟨i0, hi, hz0, hz1, hz2⟩ := info_parts info4
    obtain ⟨⟨h0, h1, h2, h3⟩, z0, z1, z2, z3⟩ := ear_cells h
    have hlt := heap_lt h
    have H : Hid (w.heap[b]? = some (.cells #[f, v, c, .int .i64 7] 48 (0, 0))) := h
    have HN : Hid (ks.length = n) := hn
    have hvl : ∀ k, v.ownBlock = some k → k < w.heap.size := fun k hk => (hown.lt k hk).2
    clear h hn
    go_enter Try.func40, Try.ntmps40
    go_wp2_with (at_builtin; refine wpList_append_lies _ rfl _ _ 27 rfl B 4 i0 (.bool false) 1 1 Try.underlying27 hi hz0 hz1 hz2 rfl (by decide) v n (ks.map .bool) rfl ((hown.alloc _).alloc _) ⟨w.heap.size + 1, 0, none⟩ 1 1 [.bool on] rfl rfl (news_one _ _ _ _) (by simp [Value.oneCell']) (by omega) (by unfold maxLen; omega) (by omega) (by simp; omega) (w.heap.size + 2) (by simp) ?_; intro g cap w1 hown1 hgrow1 hat1 hlt1; obtain ⟨hE1, hR1, hs1, hF1⟩ := kept_grown H.out hvb hvl hgrow1; have hcap1 : n + 1 ≤ cap := owns_cap hown1; obtain ⟨⟨k0, k1, k2, k3⟩, y0, y1, y2, y3⟩ := ear_cells hE1; have r0 : w1.cell? ⟨w.heap.size, 0, none⟩ = some (.int .u8 0) := (by rw [Lib.cell_of_heap hR1]; rfl); have r1 : w1.cell? ⟨w.heap.size, 1, none⟩ = some (.slice none 0 0) := (by rw [Lib.cell_of_heap hR1]; rfl); have q0 := Lib.frozen_of_heap hR1 0; have q1 := Lib.frozen_of_heap hR1 1; have HE1 : Hid (w1.heap[b]? = some (.cells #[f, v, c, .int .i64 7] 48 (0, 0))) := hE1; have HR1 : Hid (w1.heap[w.heap.size]? = some (.cells #[.int .u8 0, .slice none 0 0] 57 (0, 0))) := hR1; clear hE1 hR1 hgrow1 h0 h1 h2 h3 z0 z1 z2 z3)
    have hgb : g ≠ b := fun e => by subst e; rcases hat1 with h | h; exact hvb h; omega
    have hgH : g ≠ w.heap.size := fun e => by subst e; rcases hat1 with h | h; exact absurd (hvl _ h) (by omega); omega
    have hHb : w.heap.size ≠ b := by omega
    refine bodyPost_ret (v := .tuple #[.agg #[.int .u8 0, .slice none 0 0], .bool false]) (by simp [results, Try.results40, go_sem, r0, r1]) rfl ?_
    exact kept_fin (ear_set2 (ear_set1 (ear_set0 (ear_set1 HE1.out _) _) _) _) rfl (owns_empty hown1) (((((gb_set _).trans (gb_set _)).trans (gb_set _))).trans (gb_set _)) hgb hgH hHb hF1 (moved_app hat1)
  · obtain ⟨rfl, hk27⟩ : on = false ∧ 2687 < n + 1 := hc.resolve_left h7
    have b7 : ((r : Int) == 7) = false := by rw [beq_eq_false_iff_ne]; omega
    clear hc
    obtain ⟨i0, hi, hz0, hz1, hz2⟩ := info_parts info4
    obtain ⟨⟨h0, h1, h2, h3⟩, z0, z1, z2, z3⟩ := ear_cells h
    have hlt := heap_lt h
    have H : Hid (w.heap[b]? = some (.cells #[f, v, c, .int .i64 r] 48 (0, 0))) := h
    have HN : Hid (ks.length = n) := hn
    have hvl : ∀ k, v.ownBlock = some k → k < w.heap.size := fun k hk => (hown.lt k hk).2
    clear h hn
    go_enter Try.func40, Try.ntmps40
    go_wp2_with (at_builtin; refine wpList_append_lies _ rfl _ _ 27 rfl B 4 i0 (.bool false) 1 1 Try.underlying27 hi hz0 hz1 hz2 rfl (by decide) v n (ks.map .bool) rfl ((hown.alloc _).alloc _) ⟨w.heap.size + 1, 0, none⟩ 1 1 [.bool false] rfl rfl (news_one _ _ _ _) (by simp [Value.oneCell']) (by omega) (by unfold maxLen; omega) (by omega) (by simp; omega) (w.heap.size + 2) (by simp) ?_; intro g cap w1 hown1 hgrow1 hat1 hlt1; obtain ⟨hE1, hR1, hs1, hF1⟩ := kept_grown H.out hvb hvl hgrow1; have hcap1 : n + 1 ≤ cap := owns_cap hown1; obtain ⟨⟨k0, k1, k2, k3⟩, y0, y1, y2, y3⟩ := ear_cells hE1; have r0 : w1.cell? ⟨w.heap.size, 0, none⟩ = some (.int .u8 0) := (by rw [Lib.cell_of_heap hR1]; rfl); have r1 : w1.cell? ⟨w.heap.size, 1, none⟩ = some (.slice none 0 0) := (by rw [Lib.cell_of_heap hR1]; rfl); have q0 := Lib.frozen_of_heap hR1 0; have q1 := Lib.frozen_of_heap hR1 1; have HE1 : Hid (w1.heap[b]? = some (.cells #[f, v, c, .int .i64 r] 48 (0, 0))) := hE1; have HR1 : Hid (w1.heap[w.heap.size]? = some (.cells #[.int .u8 0, .slice none 0 0] 57 (0, 0))) := hR1; clear hE1 hR1 hgrow1 h0 h1 h2 h3 z0 z1 z2 z3)
    have hgb : g ≠ b := fun e => by subst e; rcases hat1 with h | h; exact hvb h; omega
    have hgH : g ≠ w.heap.size := fun e => by subst e; rcases hat1 with h | h; exact absurd (hvl _ h) (by omega); omega
    have hHb : w.heap.size ≠ b := by omega
    refine bodyPost_ret (v := .tuple #[.agg #[.int .u8 0, .slice none 0 0], .bool false]) (by simp [results, Try.results40, go_sem, r0, r1]) rfl ?_
    exact kept_fin (ear_set2 (ear_set1 (ear_set0 (ear_set1 HE1.out _) _) _) _) rfl (owns_empty hown1) (((((gb_set _).trans (gb_set _)).trans (gb_set _))).trans (gb_set _)) hgb hgH hHb hF1 (moved_app hat1)

set_option maxRecDepth 100000 in
set_option maxHeartbeats 1000000 in
theorem keep_on (B b n r : Nat) (f v c : Value) (on : Bool) (ks : List Bool) (w : World) (hn : ks.length = n) (hl : n ≤ 2700) (h : w.heap[b]? = some (.cells #[f, v, c, .int .i64 r] 48 (0, 0)))
    (hown : w.ownsRow B 4 1 v n (ks.map .bool)) (hvb : v.ownBlock ≠ some b) (hBb : B ≤ b) (hc : ¬ (r = 7 ∨ (on = false ∧ 2687 < n + 1))) :
    Calls Try.prog 40 #[.pointer (some ⟨b, 0, none⟩), .bool on, .bool false] w fun e w' => Kept w w' B b v none f c (.int .i64 r) (ks ++ [on]) e := by
  have b7 : ((r : Int) == 7) = false := by rw [beq_eq_false_iff_ne]; omega
  cases on
  · have hk : n + 1 ≤ 2687 := by simp at hc; omega
    clear hc
    obtain ⟨i0, hi, hz0, hz1, hz2⟩ := info_parts info4
    obtain ⟨⟨h0, h1, h2, h3⟩, z0, z1, z2, z3⟩ := ear_cells h
    have hlt := heap_lt h
    have H : Hid (w.heap[b]? = some (.cells #[f, v, c, .int .i64 r] 48 (0, 0))) := h
    have HN : Hid (ks.length = n) := hn
    have hvl : ∀ k, v.ownBlock = some k → k < w.heap.size := fun k hk => (hown.lt k hk).2
    clear h hn
    go_enter Try.func40, Try.ntmps40
    go_wp2_with (at_builtin; refine wpList_append_lies _ rfl _ _ 27 rfl B 4 i0 (.bool false) 1 1 Try.underlying27 hi hz0 hz1 hz2 rfl (by decide) v n (ks.map .bool) rfl ((hown.alloc _).alloc _) ⟨w.heap.size + 1, 0, none⟩ 1 1 [.bool false] rfl rfl (news_one _ _ _ _) (by simp [Value.oneCell']) (by omega) (by unfold maxLen; omega) (by omega) (by simp; omega) (w.heap.size + 2) (by simp) ?_; intro g cap w1 hown1 hgrow1 hat1 hlt1; obtain ⟨hE1, hR1, hs1, hF1⟩ := kept_grown H.out hvb hvl hgrow1; have hcap1 : n + 1 ≤ cap := owns_cap hown1; obtain ⟨⟨k0, k1, k2, k3⟩, y0, y1, y2, y3⟩ := ear_cells hE1; have r0 : w1.cell? ⟨w.heap.size, 0, none⟩ = some (.int .u8 0) := (by rw [Lib.cell_of_heap hR1]; rfl); have r1 : w1.cell? ⟨w.heap.size, 1, none⟩ = some (.slice none 0 0) := (by rw [Lib.cell_of_heap hR1]; rfl); have q0 := Lib.frozen_of_heap hR1 0; have q1 := Lib.frozen_of_heap hR1 1; have HE1 : Hid (w1.heap[b]? = some (.cells #[f, v, c, .int .i64 r] 48 (0, 0))) := hE1; have HR1 : Hid (w1.heap[w.heap.size]? = some (.cells #[.int .u8 0, .slice none 0 0] 57 (0, 0))) := hR1; clear hE1 hR1 hgrow1 h0 h1 h2 h3 z0 z1 z2 z3)
    have hgb : g ≠ b := fun e => by subst e; rcases hat1 with h | h; exact hvb h; omega
    have hgH : g ≠ w.heap.size := fun e => by subst e; rcases hat1 with h | h; exact absurd (hvl _ h) (by omega); omega
    have hHb : w.heap.size ≠ b := by omega
    refine bodyPost_ret (v := .tuple #[.agg #[.int .u8 0, .slice none 0 0], .bool false]) (by simp [results, Try.results40, go_sem, r0, r1]) rfl ?_
    exact kept_fin (ear_set1 HE1.out _) (by simp [HN.out]) (by rw [List.map_append]; exact hown1) (gb_set _) hgb hgH hHb hF1 (moved_app hat1)
  · clear hc
    obtain ⟨i0, hi, hz0, hz1, hz2⟩ := info_parts info4
    obtain ⟨⟨h0, h1, h2, h3⟩, z0, z1, z2, z3⟩ := ear_cells h
    have hlt := heap_lt h
    have H : Hid (w.heap[b]? = some (.cells #[f, v, c, .int .i64 r] 48 (0, 0))) := h
    have HN : Hid (ks.length = n) := hn
    have hvl : ∀ k, v.ownBlock = some k → k < w.heap.size := fun k hk => (hown.lt k hk).2
    clear h hn
    go_enter Try.func40, Try.ntmps40
    go_wp2_with (at_builtin; refine wpList_append_lies _ rfl _ _ 27 rfl B 4 i0 (.bool false) 1 1 Try.underlying27 hi hz0 hz1 hz2 rfl (by decide) v n (ks.map .bool) rfl ((hown.alloc _).alloc _) ⟨w.heap.size + 1, 0, none⟩ 1 1 [.bool true] rfl rfl (news_one _ _ _ _) (by simp [Value.oneCell']) (by omega) (by unfold maxLen; omega) (by omega) (by simp; omega) (w.heap.size + 2) (by simp) ?_; intro g cap w1 hown1 hgrow1 hat1 hlt1; obtain ⟨hE1, hR1, hs1, hF1⟩ := kept_grown H.out hvb hvl hgrow1; have hcap1 : n + 1 ≤ cap := owns_cap hown1; obtain ⟨⟨k0, k1, k2, k3⟩, y0, y1, y2, y3⟩ := ear_cells hE1; have r0 : w1.cell? ⟨w.heap.size, 0, none⟩ = some (.int .u8 0) := (by rw [Lib.cell_of_heap hR1]; rfl); have r1 : w1.cell? ⟨w.heap.size, 1, none⟩ = some (.slice none 0 0) := (by rw [Lib.cell_of_heap hR1]; rfl); have q0 := Lib.frozen_of_heap hR1 0; have q1 := Lib.frozen_of_heap hR1 1; have HE1 : Hid (w1.heap[b]? = some (.cells #[f, v, c, .int .i64 r] 48 (0, 0))) := hE1; have HR1 : Hid (w1.heap[w.heap.size]? = some (.cells #[.int .u8 0, .slice none 0 0] 57 (0, 0))) := hR1; clear hE1 hR1 hgrow1 h0 h1 h2 h3 z0 z1 z2 z3)
    have hgb : g ≠ b := fun e => by subst e; rcases hat1 with h | h; exact hvb h; omega
    have hgH : g ≠ w.heap.size := fun e => by subst e; rcases hat1 with h | h; exact absurd (hvl _ h) (by omega); omega
    have hHb : w.heap.size ≠ b := by omega
    refine bodyPost_ret (v := .tuple #[.agg #[.int .u8 0, .slice none 0 0], .bool false]) (by simp [results, Try.results40, go_sem, r0, r1]) rfl ?_
    exact kept_fin (ear_set1 HE1.out _) (by simp [HN.out]) (by rw [List.map_append]; exact hown1) (gb_set _) hgb hgH hHb hF1 (moved_app hat1)
end Go.Proofs.Ytfjfnfofbhikdaa.Tape
