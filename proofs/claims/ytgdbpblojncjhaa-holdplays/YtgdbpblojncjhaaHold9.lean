/- Two rows joined; the contracts of hold's copies, and of a Hold's Rest. -/
import Derived.Test.YtgdbpblojncjhaaHold7
import Derived.Lib.AppendZeros
namespace Go.Proofs.Ytgdbpblojncjhaa.Tape
open Go.ChangeShapes Go.WideShapes Go.ChangeAt Go.RowKit
set_option linter.unusedVariables false

theorem run_join_nothing (w : World) (ao xo : Option Addr) (n c : Nat) : (Builtin.append_ #[27, 27] 27 #[.slice ao n n, .slice xo 0 c]).run Try.prog w = .ok (.slice ao n n) w := by
  obtain ⟨i0, hi, hz0, hz1, hz2⟩ := info_parts info31
  cases ao with
  | none =>
    cases xo with
    | none => simp [Builtin.append_, run_underlying Try.underlying27, sizeOf, typeInfo, hi, Builtin.lenOf, run_firstCells_none]
    | some x =>
      have h := run_firstCells_some (P := Try.prog) w i0.size 0 x 0 c [] (by simp) (by intro _ _ h; simp at h)
      simp [Builtin.append_, run_underlying Try.underlying27, sizeOf, typeInfo, hi, Builtin.lenOf, h]
  | some a =>
    cases xo with
    | none => simp [Builtin.append_, run_underlying Try.underlying27, sizeOf, typeInfo, hi, Builtin.lenOf, run_firstCells_none, storeCells]
    | some x =>
      have h := run_firstCells_some (P := Try.prog) w i0.size 0 x 0 c [] (by simp) (by intro _ _ h; simp at h)
      simp [Builtin.append_, run_underlying Try.underlying27, sizeOf, typeInfo, hi, Builtin.lenOf, h, storeCells]

/-- A row without room, and another one behind it. -/
theorem run_join {w : World} {ao xo : Option Addr} {n m c : Nat} {us vs : List Value} (h : RowAt w (.slice ao n n) us) (k : RowAt w (.slice xo m c) vs) (hone : ∀ u ∈ vs, u.oneCell' = true) (hl : n + m ≤ 2000000) :
    ∃ v' w', (Builtin.append_ #[27, 27] 27 #[.slice ao n n, .slice xo m c]).run Try.prog w = .ok v' w' ∧ RowAt w' v' (us ++ vs) ∧ w.grownBy w' none ∧ (∀ g, v'.ownBlock = some g → ao.map (·.block) = some g ∨ w.heap.size ≤ g) := by
  obtain ⟨hn, -, -, hr⟩ := h.cell
  obtain ⟨hm, hmc, hno, hs⟩ := k.cell
  obtain ⟨i0, hi, hz0, hz1, hz2⟩ := info_parts info31
  by_cases hm0 : m = 0
  · subst hm0
    obtain rfl : vs = [] := List.eq_nil_of_length_eq_zero hm.symm
    refine ⟨_, w, run_join_nothing w ao xo n c, by simpa using h, ⟨rfl, rfl, rfl, Nat.le_refl _, fun _ _ _ => rfl⟩, fun g hg => .inl ?_⟩
    cases ao with
    | none => simp [Value.ownBlock] at hg
    | some a => simpa [Value.ownBlock] using hg
  · cases xo with
    | none => have := hno rfl; omega
    | some x =>
      cases ao with
      | none =>
        obtain rfl : us = [] := hr.none_nil
        obtain rfl : n = 0 := by simpa using hn
        obtain ⟨v', w', h1, h2, h3, -⟩ := run_append_own (P := Try.prog) w w.heap.size 27 27 31 i0 (.slice none 0 0) 1 24 Try.underlying27 hi hz0 hz1 hz2 rfl (by decide) (.slice none 0 0) 0 [] (World.ownsRow_nil _ _ _ _) x m c vs (by omega) hs.at hone (by unfold maxLen; omega) (by omega) (Nat.le_refl _)
        refine ⟨v', w', h1, ?_, h3, fun g hg => .inr (h2.lt g hg).1⟩
        have := RowAt.of_owns h2
        simpa using this
      | some a =>
        obtain ⟨v', w', h1, h2, h3⟩ := run_append_arg_grows (P := Try.prog) w 27 27 31 i0 (.slice none 0 0) 1 24 Try.underlying27 hi hz0 hz1 hz2 rfl (by decide) a n n us (by omega) hr.at x m c vs (by omega) hs.at (by omega) (by unfold maxLen; omega) (by omega)
        exact ⟨v', w', h1, RowAt.of_owns h2, h3, fun g hg => .inr (h2.lt g hg).1⟩

theorem Each.one {M : Value → List Int → Prop} (hM : ∀ u x, M u x → u.oneCell' = true) : ∀ {us : List Value} {xs : List (List Int)}, Each M us xs → ∀ u ∈ us, u.oneCell' = true
  | [], [], _ => by simp
  | u :: us, x :: xs, h => by
    intro v hv
    rcases List.mem_cons.1 hv with rfl | hv
    · exact hM _ _ h.1
    · exact h.2.one hM v hv
  | [], _ :: _, h => by cases h
  | _ :: _, [], h => by cases h
theorem HMsg.one {w : World} {B : Nat} {u : Value} {xs : List Int} (h : HMsg w B u xs) : u.oneCell' = true := by
  obtain ⟨m, cap, cur, rfl, -⟩ := h.form
  rfl
/-- Messages stay where a row grows. -/
theorem HMsg.grown {w w' : World} {B : Nat} {u v : Value} {us : List Value} {xs : List Int} (h : HMsg w B u xs) (hr : RowAt w v us) (hg : w.grownBy w' v.ownBlock) : HMsg w' B u xs := h.at_ fun g cur _ hh => hg.block g (heap_lt hh) (fun e => by
  obtain ⟨c, hc⟩ := hr.type g e.symm
  rw [hc] at hh
  simp at hh)
theorem HMsg.below {w w' : World} {B : Nat} {u : Value} {xs : List Int} (h : HMsg w B u xs) (hb : Below w.heap.size w w') : HMsg w' B u xs := h.at_ fun g _ _ hg => hb.block g (heap_lt hg)

set_option maxRecDepth 100000 in
set_option maxHeartbeats 1000000 in
theorem copies_any (lo : Option Addr) (n cap B : Nat) (us : List Value) (ms : List (List Int)) (w : World) (hr : RowAt w (.slice lo n cap) us) (he : Each (HMsg w B) us ms) (hn : n ≤ 1500000) :
    Calls Try.prog 39 #[.slice lo n cap] w fun e w' => ∃ v us', e = .returned v ∧ RowAt w' v us' ∧ Each (HMsg w' w.heap.size) us' ms ∧ Below w.heap.size w w' := by
  obtain ⟨i0, hi, hz0, hz1, hz2⟩ := info_parts info31
  obtain ⟨hnu, -, -, hrd⟩ := hr.cell
  have hlen := he.len
  have HNU : Hid (n = us.length ∧ us.length = ms.length) := ⟨hnu, hlen⟩
  have HE : Hid (Each (HMsg w B) us ms) := he
  have hb24 : i0.bytes * n ≤ 281474976710656 := by rw [hz2]; omega
  clear hnu hlen hr he
  go_enter Try.func39, Try.ntmps39
  go_wp2_with (at_make; refine wpList_make_own _ rfl _ _ 27 rfl w.heap.size 31 i0 (.slice none 0 0) 1 Try.underlying27 hi hz0 hz1 _ _ _ n rfl rfl (by omega) hb24 (by unfold maxLen; omega) (Nat.le_refl _) ?_; intro w1 hown1 hg1)
  have hrow1 := RowAt.of_owns hown1
  have hB1 : Below w.heap.size w w1 := ⟨hg1.os, hg1.tape, hg1.output, hg1.size, fun k hk => hg1.block k hk (by simp)⟩
  have hnew1 := (hown1.lt)
  clear hown1 hg1
  go_wp2_with fail
  go_loopw [3, 11] (fun v i wr => ∃ (k : Nat) (us' : List Value), k ≤ n ∧ i = .int .i64 k ∧ RowAt wr v us' ∧ Each (HMsg wr w.heap.size) us' (ms.take k) ∧ (∀ g, v.ownBlock = some g → w.heap.size ≤ g) ∧ Below w.heap.size w wr) (fun _ i _ => n - (intOf i).toNat)
  case atStart => exact ⟨0, [], by omega, rfl, hrow1, by rw [List.take_zero]; trivial, fun g hg => (hnew1 g hg).1, hB1⟩
  case round =>
    clear hrow1 hB1 hnew1
    obtain ⟨k, us', hk, rfl, hrow, heach, hnew, hB⟩ := hrel
    by_cases hlt : k < n
    · have hku : k < us.length := by have := HNU.out; omega
      have hkm : k < ms.length := by have := HNU.out; omega
      have hm := HE.out.get k hku hkm
      obtain ⟨m, mc, cur, hu, -, -, -, hrm⟩ := hm.form
      obtain ⟨g, off, rfl, hc⟩ := hrd k _ (List.getElem?_eq_getElem hku)
      rw [hu] at hc
      have hrm2 := hrm.below (Nat.le_refl _) hB
      have hc2 := (hB.cell (p := ⟨g, off + k, none⟩) (World.block_lt_of_cell? w _ hc)).trans hc
      have h3 := hm.2.1
      have h273 := hm.2.2.1
      have hx := hm.2.2.2
      have htk : ms.take (k + 1) = ms.take k ++ [ms[k]] := List.take_succ_eq_append_getElem hkm
      generalize ms[k] = x at *
      have HTK : Hid (ms.take (k + 1) = ms.take k ++ [x]) := htk
      have HX : Hid (∀ y ∈ x, 0 ≤ y ∧ y ≤ 255) := hx
      have hcl := clone_any m 0 x.length mc x wr rfl (by omega) hrm2
      have hul := heach.len
      have hul2 : us'.length ≤ 2000000 := by rw [hul, List.length_take]; omega
      have hszw := hB.size
      obtain ⟨L, hL⟩ : ∃ L, x.length = L := ⟨_, rfl⟩
      rw [hL] at hc2 hcl h3 h273
      have HL : Hid (x.length = L) := hL
      clear hm hu hrm hc hrm2 htk hx hul hL
      go_wp2_with (first
        | (go_at_call 26; refine hcl.mono ?_; rintro e w3 ⟨v3, rfl, hown3, hB3⟩; obtain ⟨g3, c3, rfl⟩ := owns_some hown3 (by omega); have hrow3 : RowAt (w3.alloc (.cells #[.slice (some ⟨g3, 0, none⟩) L c3] 31)) u3 us' := hrow.at_ (fun g hg => (Below.heap_alloc _ _ _ (Nat.lt_of_lt_of_le (hrow.lt g hg) hB3.size)).trans (hB3.block g (hrow.lt g hg))); have hcc3 : (w3.alloc (.cells #[.slice (some ⟨g3, 0, none⟩) L c3] 31)).cell? ⟨w3.heap.size, 0, none⟩ = some (.slice (some ⟨g3, 0, none⟩) L c3) := by rw [World.cell?_alloc_new]; rfl)
        | (at_builtin; refine row_push rfl _ _ rfl u3 us' rfl hrow3 ⟨w3.heap.size, 0, none⟩ (.slice (some ⟨g3, 0, none⟩) L c3) 1 rfl hcc3 rfl hul2 ?_; intro v5 w5 hr5 hg5 hm5; obtain ⟨ao5, n5, c5, rfl⟩ := hr5.form3))
      go_roundw
      case rel =>
        have hBa : Below w3.heap.size w3 (w3.alloc (.cells #[.slice (some ⟨g3, 0, none⟩) L c3] 31)) := (Below.refl _ _).alloc (Nat.le_refl _) _
        have hs3 := hB3.size
        obtain rfl := HL.out
        have hm3 : HMsg w3 w.heap.size (.slice (some ⟨g3, 0, none⟩) x.length c3) x := ⟨owns_lower hown3 hszw, h3, h273, HX.out⟩
        refine ⟨k + 1, us' ++ [.slice (some ⟨g3, 0, none⟩) x.length c3], by omega, by go_num, hr5, ?_, fun g hg => ?_, ?_⟩
        · rw [HTK.out]
          exact Each.append (ys := [_]) (zs := [x]) ⟨(hm3.below hBa).grown hrow3 hg5, trivial⟩ (heach.mono fun u y hy => ((hy.below hB3).below hBa).grown hrow3 hg5)
        · rcases hm5 g hg with e | e
          · exact hnew g e
          · simp at e; omega
        · refine ((hB.trans (below_le hB3 hszw)).trans (below_le hBa (by omega))).trans ⟨hg5.os, hg5.tape, hg5.output, hg5.size, fun k hk => hg5.block k (by simp; omega) (fun e => ?_)⟩
          have := hnew k e.symm
          omega
      case measure => simp [intOf]; omega
    · obtain rfl : k = n := by omega
      have hall : ms.take k = ms := List.take_of_length_le (by have := HNU.out; omega)
      rw [hall] at heach
      obtain ⟨ao5, n5, c5, rfl⟩ := hrow.form3
      clear hall hlt
      go_wp2
      go_ret
      exact ⟨_, us', rfl, hrow, heach, hB⟩
end Go.Proofs.Ytgdbpblojncjhaa.Tape
