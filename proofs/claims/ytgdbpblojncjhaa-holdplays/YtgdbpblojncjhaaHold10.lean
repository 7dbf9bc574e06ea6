/- The contract of a Hold's Rest. -/
import Derived.Test.YtgdbpblojncjhaaHold9
import Derived.Deep.RegionHeld3
namespace Go.Proofs.Ytgdbpblojncjhaa.Tape
open Go.ChangeShapes Go.WideShapes Go.ChangeAt Go.RowKit
set_option linter.unusedVariables false

/-- An append whose run is known, at a step of a region that draws its order. -/
theorem step_append_eq {w : World} {ops : Array Oper} {o : Oper} {a : Act} {K : Act → World → Prop} {Q : Exit → Act → World → Prop} {E : Prop} (hgd : o.guard = none) (s x : Operand)
    (ho : o.op = .call { callee := .builtin .append, args := #[s, x], argTypes := #[27, 27] }) (hty : o.type = 27) (vs vx : Value) (hs : a.eval s = vs) (hx : a.eval x = vx)
    (v' : Value) (w' : World) (hr : (Builtin.append_ #[27, 27] 27 #[vs, vx]).run Try.prog w = .ok v' w') (h : K (a.put o.dst v') w') :
    if Region.wanted o (yielded ops a.tmps) = true then Oper.wp Try.prog o a w K Q else E := by
  have hw : Region.wanted o (yielded ops a.tmps) = true := by simp [Region.wanted, hgd]
  rw [if_pos hw]
  exact Lib.wp_append_run w s x 27 27 ho vs vx hs hx v' w' (by rw [hty]; exact hr) h

set_option maxRecDepth 100000 in
set_option maxHeartbeats 1000000 in
theorem rest_no (b B : Nat) (T : Nat → Prop) (s : Hs) (n : Int) (w : World) (h : HoldAt w b B T s) (h0 : 0 ≤ n) (h1 : n ≤ 255) (hk : s.knows n = false) :
    Calls Try.prog 29 #[.pointer (some ⟨b, 0, none⟩), .int .u8 n] w fun e w' => e = .returned (.tuple #[.slice none 0 0, .int .i64 10]) ∧ w' = w := by
  have hkn := knows_any b B T s n w h h0 h1
  rw [hk] at hkn
  clear h hk
  go_enter Try.func29, Try.ntmps29
  go_wp2_with (go_at_call 31; refine hkn.mono ?_; rintro e w1 ⟨rfl, hw1⟩; obtain rfl := hw1.symm; clear hw1)
  go_ret2
  exact ⟨rfl, rfl⟩

set_option maxRecDepth 100000 in
set_option maxHeartbeats 1000000 in
theorem rest_in (b B k : Nat) (T : Nat → Prop) (s : Hs) (n : Int) (w : World) (h : HoldAt w b B T s) (h0 : 0 ≤ n) (hk : s.knows n = true) (hkk : s.upTo n = k) (hlt : k < s.sent.length) :
    Calls Try.prog 29 #[.pointer (some ⟨b, 0, none⟩), .int .u8 n] w fun e w' => ∃ v us, e = .returned (.tuple #[v, .int .i64 0]) ∧ RowAt w' v us ∧ Each (HMsg w' w.heap.size) us (s.sent.drop k ++ s.next) ∧ Below w.heap.size w w' := by
  have hk' : n < 128 := (of_decide_eq_true hk).1
  have hD : Below w.heap.size w w.drew := (Below.refl _ _).drew
  have hkn := knows_any b B T s n w h h0 (by omega)
  have hup := upTo_any b B T s n w.drew (h.below hD) h0 (by omega)
  rw [hk] at hkn
  rw [hkk] at hup
  have hwin := h.fine.win
  have hnum := h.fine.nums.1
  obtain ⟨sv, nv, rfl, hi⟩ := h
  have hiD := hi.below hD
  obtain ⟨us, hrs, hes⟩ := hiD.sent
  obtain ⟨un, hrn, hen⟩ := hiD.next
  obtain ⟨⟨-, -, -, c3, -, c5, -⟩, -⟩ := hold_cells hi.cells
  obtain ⟨so, N, sc, rfl⟩ := hrs.form3
  obtain ⟨no, M, nc, rfl⟩ := hrn.form3
  obtain ⟨hNu, hNc, -, hrd⟩ := hrs.cell
  obtain ⟨hMu, -, -, -⟩ := hrn.cell
  have hNl : N = s.sent.length := hNu.trans hes.len
  have hMl : M = s.next.length := hMu.trans hen.len
  obtain ⟨g, off, rfl, -⟩ := hrd k _ (List.getElem?_eq_getElem (show k < us.length by omega))
  have hkN : k < N := by omega
  have hpart := hrs.part k N N (by omega) (Nat.le_refl _) (Nat.le_refl _) hNc
  rw [if_neg (show ¬ N = k by omega), List.take_of_length_le (by omega)] at hpart
  simp only [Option.map_some, Addr.add_lit] at hpart
  obtain ⟨v5, w5, hrun, hr5, hg5, hm5⟩ := run_join hpart hrn (hen.one fun u x hm => hm.one) (by omega)
  have hB5 : Below w.heap.size w w5 := hD.trans ⟨hg5.os, hg5.tape, hg5.output, hg5.size, fun k hk => hg5.block k hk (by simp)⟩
  have hmsg : ∀ u x, HMsg w.drew B u x → HMsg w5 B u x := fun u x hm => hm.at_ fun g cur _ hg => hg5.block g (heap_lt hg) (by simp)
  have he5 : Each (HMsg w5 B) (us.drop k ++ un) (s.sent.drop k ++ s.next) := Each.append (hen.mono hmsg) ((hes.drop k).mono hmsg)
  have hl5 := he5.len
  obtain ⟨ao5, n5, cap5, rfl⟩ := hr5.form3
  obtain ⟨hn5, -, -, -⟩ := hr5.cell
  have hcop := copies_any ao5 n5 cap5 B _ _ w5 hr5 he5 (by rw [hn5, hl5, List.length_append, List.length_drop]; omega)
  have HS : Hid (∀ W, Below w.heap.size w W → W.cell? ⟨b, 3, none⟩ = some (.slice (some ⟨g, off, none⟩) N sc) ∧ W.cell? ⟨b, 5, none⟩ = some (.slice no M nc)) :=
    fun W hB => ⟨(hB.cell (World.block_lt_of_cell? w _ c3)).trans c3, (hB.cell (World.block_lt_of_cell? w _ c5)).trans c5⟩
  have HB5 : Hid (Below w.heap.size w w5) := hB5
  clear hi hiD hrs hes hrn hen hrd hpart hr5 hg5 hm5 hmsg he5 hl5 hNu hMu hn5 hNl hMl hk hlt c5
  have q1 : k ≤ N := by omega
  have q2 : ¬ N = k := by omega
  have q3 : (k : Int) ≤ (N : Int) := by omega
  have q4 : (N : Int) ≤ (sc : Int) := by omega
  go_enter Try.func29, Try.ntmps29
  go_wp2_with (go_at_call 31; refine hkn.mono ?_; rintro e w1 ⟨rfl, hw1⟩; obtain rfl := hw1.symm; clear hw1)
  go_region_held3 (fun W => W.cell? ⟨b, 3, none⟩ = some (.slice (some ⟨g, off, none⟩) N sc) ∧ W.cell? ⟨b, 5, none⟩ = some (.slice no M nc)) ((refine HS.out _ ?_; assumption))
    (first
    | (go_at_call 32; refine hup.mono ?_; rintro e w1 ⟨rfl, hw1⟩; obtain rfl := hw1.symm; clear hw1)
    | (refine step_append_eq (by rfl) _ _ (by rfl) (by rfl) _ _ (by rfl) (by rfl) _ _ hrun ?_))
  go_wp2_with (go_at_call 39; refine hcop.mono ?_; rintro e w7 ⟨v7, us7, rfl, hr7, he7, hB7⟩)
  go_ret2
  have hs5 := HB5.out.size
  exact ⟨v7, us7, rfl, hr7, he7.mono (fun u x hm => ⟨owns_lower hm.1 hs5, hm.2⟩), HB5.out.trans (below_le hB7 hs5)⟩

set_option maxRecDepth 100000 in
set_option maxHeartbeats 1000000 in
theorem rest_end (b B k : Nat) (T : Nat → Prop) (s : Hs) (n : Int) (w : World) (h : HoldAt w b B T s) (h0 : 0 ≤ n) (hk : s.knows n = true) (hkk : s.upTo n = k) (hlt : k = s.sent.length) :
    Calls Try.prog 29 #[.pointer (some ⟨b, 0, none⟩), .int .u8 n] w fun e w' => ∃ v us, e = .returned (.tuple #[v, .int .i64 0]) ∧ RowAt w' v us ∧ Each (HMsg w' w.heap.size) us (s.sent.drop k ++ s.next) ∧ Below w.heap.size w w' := by
  have hk' : n < 128 := (of_decide_eq_true hk).1
  have hD : Below w.heap.size w w.drew := (Below.refl _ _).drew
  have hkn := knows_any b B T s n w h h0 (by omega)
  have hup := upTo_any b B T s n w.drew (h.below hD) h0 (by omega)
  rw [hk] at hkn
  rw [hkk] at hup
  have hwin := h.fine.win
  have hnum := h.fine.nums.1
  obtain ⟨sv, nv, rfl, hi⟩ := h
  have hiD := hi.below hD
  obtain ⟨us, hrs, hes⟩ := hiD.sent
  obtain ⟨un, hrn, hen⟩ := hiD.next
  obtain ⟨⟨-, -, -, c3, -, c5, -⟩, -⟩ := hold_cells hi.cells
  obtain ⟨so, N, sc, rfl⟩ := hrs.form3
  obtain ⟨no, M, nc, rfl⟩ := hrn.form3
  obtain ⟨hNu, hNc, -, -⟩ := hrs.cell
  obtain ⟨hMu, -, -, -⟩ := hrn.cell
  have hNl : N = s.sent.length := hNu.trans hes.len
  have hMl : M = s.next.length := hMu.trans hen.len
  obtain rfl : k = N := by omega
  have hpart := hrs.part k k k (by omega) (Nat.le_refl _) (Nat.le_refl _) hNc
  rw [if_pos rfl, Nat.sub_self] at hpart
  rw [show (us.take k).drop k = us.drop k by rw [List.take_of_length_le (by omega)]] at hpart
  obtain ⟨v5, w5, hrun, hr5, hg5, hm5⟩ := run_join hpart hrn (hen.one fun u x hm => hm.one) (by omega)
  have hB5 : Below w.heap.size w w5 := hD.trans ⟨hg5.os, hg5.tape, hg5.output, hg5.size, fun k hk => hg5.block k hk (by simp)⟩
  have hmsg : ∀ u x, HMsg w.drew B u x → HMsg w5 B u x := fun u x hm => hm.at_ fun g cur _ hg => hg5.block g (heap_lt hg) (by simp)
  have he5 : Each (HMsg w5 B) (us.drop k ++ un) (s.sent.drop k ++ s.next) := Each.append (hen.mono hmsg) ((hes.drop k).mono hmsg)
  have hl5 := he5.len
  obtain ⟨ao5, n5, cap5, rfl⟩ := hr5.form3
  obtain ⟨hn5, -, -, -⟩ := hr5.cell
  have hcop := copies_any ao5 n5 cap5 B _ _ w5 hr5 he5 (by rw [hn5, hl5, List.length_append, List.length_drop]; omega)
  have HS : Hid (∀ W, Below w.heap.size w W → W.cell? ⟨b, 3, none⟩ = some (.slice so k sc) ∧ W.cell? ⟨b, 5, none⟩ = some (.slice no M nc)) :=
    fun W hB => ⟨(hB.cell (World.block_lt_of_cell? w _ c3)).trans c3, (hB.cell (World.block_lt_of_cell? w _ c5)).trans c5⟩
  have HB5 : Hid (Below w.heap.size w w5) := hB5
  clear hi hiD hrs hes hrn hen hpart hr5 hg5 hm5 hmsg he5 hl5 hNu hMu hn5 hNl hMl hk hlt c5
  have q4 : (k : Int) ≤ (sc : Int) := by omega
  go_enter Try.func29, Try.ntmps29
  go_wp2_with (go_at_call 31; refine hkn.mono ?_; rintro e w1 ⟨rfl, hw1⟩; obtain rfl := hw1.symm; clear hw1)
  go_region_held3 (fun W => W.cell? ⟨b, 3, none⟩ = some (.slice so k sc) ∧ W.cell? ⟨b, 5, none⟩ = some (.slice no M nc)) ((refine HS.out _ ?_; assumption))
    (first
    | (go_at_call 32; refine hup.mono ?_; rintro e w1 ⟨rfl, hw1⟩; obtain rfl := hw1.symm; clear hw1)
    | (refine step_append_eq (by rfl) _ _ (by rfl) (by rfl) _ _ (by rfl) (by rfl) _ _ hrun ?_))
  go_wp2_with (go_at_call 39; refine hcop.mono ?_; rintro e w7 ⟨v7, us7, rfl, hr7, he7, hB7⟩)
  go_ret2
  have hs5 := HB5.out.size
  exact ⟨v7, us7, rfl, hr7, he7.mono (fun u x hm => ⟨owns_lower hm.1 hs5, hm.2⟩), HB5.out.trans (below_le hB7 hs5)⟩

theorem rest_any (b B : Nat) (T : Nat → Prop) (s : Hs) (n : Int) (w : World) (h : HoldAt w b B T s) (h0 : 0 ≤ n) (hk : s.knows n = true) :
    Calls Try.prog 29 #[.pointer (some ⟨b, 0, none⟩), .int .u8 n] w fun e w' => ∃ v us, e = .returned (.tuple #[v, .int .i64 0]) ∧ RowAt w' v us ∧ Each (HMsg w' w.heap.size) us (s.sent.drop (s.upTo n) ++ s.next) ∧ Below w.heap.size w w' := by
  have hk' := of_decide_eq_true hk
  have hf := h.fine.first
  have hU : s.upTo n ≤ s.sent.length := by unfold Hs.upTo; omega
  by_cases e : s.upTo n < s.sent.length
  · exact rest_in b B _ T s n w h h0 hk rfl e
  · exact rest_end b B _ T s n w h h0 hk rfl (by omega)
end Go.Proofs.Ytgdbpblojncjhaa.Tape
