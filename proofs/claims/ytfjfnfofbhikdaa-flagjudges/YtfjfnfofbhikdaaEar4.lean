/- The contract of an Ear's Bit. -/
import Derived.Test.YtfjfnfofbhikdaaEar3
namespace Go.Proofs.Ytfjfnfofbhikdaa.Tape
open Go.ChangeShapes Go.WideShapes Go.ChangeAt Go.RowKit

theorem seek_kept {w w' : World} {B b : Nat} {v : Value} {o : Option (Nat × List Int)} {f c r : Value} {e : Ending} (hown : w.ownsRow B 4 1 v 0 []) (hvb : v.ownBlock ≠ some b)
    (h : Told w w' b v o e ∧ w'.heap[b]? = some (.cells #[f, v, c, r] 48 (0, 0)) ∧ w.grownBy w' (some b)) : Kept w w' B b v o f c r [] e :=
  ⟨v, h.1, h.2.1, owns_far hown (fun g hg => h.2.2.block g (hown.lt g hg).2 (fun e => by simp at e; subst e; exact hvb hg)), hvb, Fr.of_b h.2.2, Moved.refl _ _⟩

/-- Bit's answer out of the answer of what it calls, behind the store of the run and of the result. -/
theorem bit_fin {w W w2 : World} {B b : Nat} {v f c r : Value} {o : Option (Nat × List Int)} {ks : List Bool} {vo : Option Addr} {m ca K : Nat} {D : Bool} (hWs : W.heap.size = w.heap.size + 1) (hG : w.grownBy W (some b)) (hb : b < w.heap.size) (hvl : ∀ k, v.ownBlock = some k → k < w.heap.size)
    (h : Kept W w2 B b v o f c r ks (.returned (.tuple #[.agg #[.int .u8 K, .slice vo m ca], .bool D]))) :
    Kept w ((w2.setCell ⟨w.heap.size, 0, none⟩ (.int .u8 K)).setCell ⟨w.heap.size, 1, none⟩ (.slice vo m ca)) B b v o f c r ks (.returned (.tuple #[.agg #[.int .u8 K, .slice vo m ca], .bool D])) := by
  have hgo : w2.grownBy ((w2.setCell ⟨w.heap.size, 0, none⟩ (.int .u8 K)).setCell ⟨w.heap.size, 1, none⟩ (.slice vo m ca)) (some w.heap.size) := gb_out _ _
  obtain ⟨v', ⟨vo', m', ca', he, hm, hmc, hrd, hli, haw, hvn⟩, hE, hown, hvb, hF, hmv⟩ := h
  have he' := he
  simp only [Ending.returned.injEq, Value.tuple.injEq, Array.mk.injEq, List.cons.injEq, Value.agg.injEq, Value.slice.injEq, and_true] at he'
  obtain ⟨⟨hK, rfl, rfl, rfl⟩, hD⟩ := he'
  have hne : ∀ k, v'.ownBlock = some k → k ≠ w.heap.size := fun k hk => by
    rcases hmv k hk with h | h
    · have := hvl k h; omega
    · omega
  refine ⟨v', ⟨vo, m, ca, he, hm, hmc, reads_gb hli (by omega) hgo hrd, hli.mono (by omega) hgo.size, fun x hx => ⟨Nat.lt_of_lt_of_le (haw x hx).1 hgo.size, (haw x hx).2⟩, hvn⟩, (hgo.block b (heap_lt hE) (by simp; omega)).trans hE, ?_, hvb, ?_, fun k hk => ?_⟩
  · exact owns_far hown (fun k hk => hgo.block k (hown.lt k hk).2 (by simpa using hne k hk))
  · exact fr_new (Fr.trans (Fr.of_b hG) (Moved.refl w v) hF) hgo (Nat.le_refl _)
  · rcases hmv k hk with h | h
    · exact .inl h
    · exact .inr (by omega)

/-- The call inside Bit: behind the store of the run; what stands behind it. -/
theorem bit_call {w : World} {B b r n : Nat} {v f c f' c' : Value} {x : Int} {on : Bool} {o : Option (Nat × List Int)} {ks ks' : List Bool} (cal : FuncId) (args : Array Value) (H : w.heap[b]? = some (.cells #[f, v, c, .int .i64 r] 48 (0, 0))) (hx : x = ((nx r on : Nat) : Int))
    (hown : w.ownsRow B 4 1 v n (ks.map .bool)) (hvb : v.ownBlock ≠ some b)
    (hcall : ∀ W : World, W.heap[b]? = some (.cells #[f, v, c, .int .i64 (nx r on : Nat)] 48 (0, 0)) → W.ownsRow B 4 1 v n (ks.map .bool) → Calls Try.prog cal args W fun e w' => Kept W w' B b v o f' c' (.int .i64 (nx r on : Nat)) ks' e) :
    Calls Try.prog cal args ((w.setCell ⟨b, 3, none⟩ (.int .i64 x)).alloc (.cells #[.int .u8 0, .slice none 0 0] 57)) fun e w2 => ∃ (vo : Option Addr) (m ca K : Nat) (D : Bool), e = .returned (.tuple #[.agg #[.int .u8 K, .slice vo m ca], .bool D]) ∧
      (w2.cell? ⟨w.heap.size, 0, none⟩ = some (.int .u8 0) ∧ w2.cell? ⟨w.heap.size, 1, none⟩ = some (.slice none 0 0) ∧ w2.frozen? ⟨w.heap.size, 0, none⟩ = false ∧ w2.frozen? ⟨w.heap.size, 1, none⟩ = false) ∧
      Hid (Kept w ((w2.setCell ⟨w.heap.size, 0, none⟩ (.int .u8 K)).setCell ⟨w.heap.size, 1, none⟩ (.slice vo m ca)) B b v o f' c' (.int .i64 (nx r on : Nat)) ks' (.returned (.tuple #[.agg #[.int .u8 K, .slice vo m ca], .bool D]))) := by
  have hlt := heap_lt H
  have hvl : ∀ k, v.ownBlock = some k → k < w.heap.size := fun k hk => (hown.lt k hk).2
  have hW := heap_alloc_new (w.setCell ⟨b, 3, none⟩ (.int .i64 x)) (.cells #[.int .u8 0, .slice none 0 0] 57)
  have hsW : (w.setCell ⟨b, 3, none⟩ (.int .i64 x)).heap.size = w.heap.size := by simp [World.setCell]
  rw [hsW] at hW
  have hsA : ((w.setCell ⟨b, 3, none⟩ (.int .i64 x)).alloc (.cells #[.int .u8 0, .slice none 0 0] 57)).heap.size = w.heap.size + 1 := by simp [World.setCell]
  have HG : w.grownBy ((w.setCell ⟨b, 3, none⟩ (.int .i64 x)).alloc (.cells #[.int .u8 0, .slice none 0 0] 57)) (some b) := gb_alloc (gb_set _) _
  have HE := heap_more (ear_set3 H (.int .i64 x)) (.cells #[.int .u8 0, .slice none 0 0] 57)
  generalize (w.setCell ⟨b, 3, none⟩ (.int .i64 x)).alloc (.cells #[.int .u8 0, .slice none 0 0] 57) = W at hW hsA HG HE
  rw [hx] at HE
  have hownW : W.ownsRow B 4 1 v n (ks.map .bool) := owns_far hown (fun g hg => HG.block g (hvl g hg) (fun e => by simp at e; subst e; exact hvb hg))
  refine (hcall W HE hownW).mono ?_
  rintro e w2 ⟨v', ⟨vo, m, ca, rfl, hm, hmc, hrd, hli, haw, hvn⟩, hE, hown2, hvb2, hF, hmv⟩
  have hH : w2.heap[w.heap.size]? = some (.cells #[.int .u8 0, .slice none 0 0] 57 (0, 0)) := (hF.block w.heap.size (by omega) (by omega) (fun e => by have := hvl _ e; omega)).trans hW
  exact ⟨vo, m, ca, _, _, rfl, ⟨by rw [Lib.cell_of_heap hH]; rfl, by rw [Lib.cell_of_heap hH]; rfl, Lib.frozen_of_heap hH 0, Lib.frozen_of_heap hH 1⟩, bit_fin hsA HG hlt hvl ⟨v', ⟨vo, m, ca, rfl, hm, hmc, hrd, hli, haw, hvn⟩, hE, hown2, hvb2, hF, hmv⟩⟩

set_option maxRecDepth 100000 in
set_option maxHeartbeats 1000000 in
theorem bit_lost1 (B b n r : Nat) (v c f' c' : Value) (o : Option (Nat × List Int)) (ks ks' : List Bool) (w : World) (h : w.heap[b]? = some (.cells #[.bool false, v, c, .int .i64 r] 48 (0, 0))) (hr : r ≤ 7) (hown : w.ownsRow B 4 1 v n (ks.map .bool)) (hvb : v.ownBlock ≠ some b)
    (hcall : ∀ W : World, W.heap[b]? = some (.cells #[.bool false, v, c, .int .i64 (nx r true : Nat)] 48 (0, 0)) → W.ownsRow B 4 1 v n (ks.map .bool) → Calls Try.prog 41 #[.pointer (some ⟨b, 0, none⟩), .bool false] W fun e w' => Kept W w' B b v o f' c' (.int .i64 (nx r true : Nat)) ks' e) :
    Calls Try.prog 27 #[.pointer (some ⟨b, 0, none⟩), .bool true] w fun e w' => Kept w w' B b v o f' c' (.int .i64 (nx r true : Nat)) ks' e := by
  obtain ⟨⟨h0, h1, h2, h3⟩, z0, z1, z2, z3⟩ := ear_cells h
  have hlt := heap_lt h
  have H : Hid (w.heap[b]? = some (.cells #[.bool false, v, c, .int .i64 r] 48 (0, 0))) := h
  clear h
  go_enter Try.func27, Try.ntmps27
  go_wp2_with fail
  all_goals
    refine (bit_call (on := true) 41 #[.pointer (some ⟨b, 0, none⟩), .bool false] H.out (by simp [nx]; omega) hown hvb hcall).mono ?_
    rintro e w2 ⟨vo, m, ca, K, D, rfl, ⟨c0, c1, f0, f1⟩, hfin⟩
    go_wp2
    exact bodyPost_ret (v := .tuple #[.agg #[.int .u8 K, .slice vo m ca], .bool D]) (by simp [results, Try.results27, go_sem, c0, c1]) rfl hfin.out

set_option maxRecDepth 100000 in
set_option maxHeartbeats 1000000 in
theorem bit_lost0 (B b n r : Nat) (v c f' c' : Value) (o : Option (Nat × List Int)) (ks ks' : List Bool) (w : World) (h : w.heap[b]? = some (.cells #[.bool false, v, c, .int .i64 r] 48 (0, 0))) (_ : r ≤ 7) (h6 : r ≠ 6) (hown : w.ownsRow B 4 1 v n (ks.map .bool)) (hvb : v.ownBlock ≠ some b)
    (hcall : ∀ W : World, W.heap[b]? = some (.cells #[.bool false, v, c, .int .i64 (nx r false : Nat)] 48 (0, 0)) → W.ownsRow B 4 1 v n (ks.map .bool) → Calls Try.prog 41 #[.pointer (some ⟨b, 0, none⟩), .bool false] W fun e w' => Kept W w' B b v o f' c' (.int .i64 (nx r false : Nat)) ks' e) :
    Calls Try.prog 27 #[.pointer (some ⟨b, 0, none⟩), .bool false] w fun e w' => Kept w w' B b v o f' c' (.int .i64 (nx r false : Nat)) ks' e := by
  obtain ⟨⟨h0, h1, h2, h3⟩, z0, z1, z2, z3⟩ := ear_cells h
  have hlt := heap_lt h
  have H : Hid (w.heap[b]? = some (.cells #[.bool false, v, c, .int .i64 r] 48 (0, 0))) := h
  clear h
  have b6 : ((r : Int) == 6) = false := by rw [beq_eq_false_iff_ne]; omega
  go_enter Try.func27, Try.ntmps27
  go_wp2_with fail
  all_goals
    refine (bit_call (on := false) 41 #[.pointer (some ⟨b, 0, none⟩), .bool false] H.out (by simp [nx]) hown hvb hcall).mono ?_
    rintro e w2 ⟨vo, m, ca, K, D, rfl, ⟨c0, c1, f0, f1⟩, hfin⟩
    go_wp2
    exact bodyPost_ret (v := .tuple #[.agg #[.int .u8 K, .slice vo m ca], .bool D]) (by simp [results, Try.results27, go_sem, c0, c1]) rfl hfin.out

set_option maxRecDepth 100000 in
set_option maxHeartbeats 1000000 in
theorem bit_lost6 (B b n : Nat) (v c f' c' : Value) (o : Option (Nat × List Int)) (ks ks' : List Bool) (w : World) (h : w.heap[b]? = some (.cells #[.bool false, v, c, .int .i64 (6 : Nat)] 48 (0, 0))) (hown : w.ownsRow B 4 1 v n (ks.map .bool)) (hvb : v.ownBlock ≠ some b)
    (hcall : ∀ W : World, W.heap[b]? = some (.cells #[.bool false, v, c, .int .i64 (nx 6 false : Nat)] 48 (0, 0)) → W.ownsRow B 4 1 v n (ks.map .bool) → Calls Try.prog 41 #[.pointer (some ⟨b, 0, none⟩), .bool true] W fun e w' => Kept W w' B b v o f' c' (.int .i64 (nx 6 false : Nat)) ks' e) :
    Calls Try.prog 27 #[.pointer (some ⟨b, 0, none⟩), .bool false] w fun e w' => Kept w w' B b v o f' c' (.int .i64 (nx 6 false : Nat)) ks' e := by
  obtain ⟨⟨h0, h1, h2, h3⟩, z0, z1, z2, z3⟩ := ear_cells h
  have hlt := heap_lt h
  have H : Hid (w.heap[b]? = some (.cells #[.bool false, v, c, .int .i64 (6 : Nat)] 48 (0, 0))) := h
  clear h
  have e6 : (((6 : Nat) : Int) == 6) = true := by decide
  go_enter Try.func27, Try.ntmps27
  go_wp2_with fail
  all_goals
    refine (bit_call (on := false) 41 #[.pointer (some ⟨b, 0, none⟩), .bool true] H.out (by simp [nx]) hown hvb hcall).mono ?_
    rintro e w2 ⟨vo, m, ca, K, D, rfl, ⟨c0, c1, f0, f1⟩, hfin⟩
    go_wp2
    exact bodyPost_ret (v := .tuple #[.agg #[.int .u8 K, .slice vo m ca], .bool D]) (by simp [results, Try.results27, go_sem, c0, c1]) rfl hfin.out

set_option maxRecDepth 100000 in
set_option maxHeartbeats 1000000 in
theorem bit_found1 (B b n r : Nat) (v c f' c' : Value) (o : Option (Nat × List Int)) (ks ks' : List Bool) (w : World) (h : w.heap[b]? = some (.cells #[.bool true, v, c, .int .i64 r] 48 (0, 0))) (hr : r ≤ 7) (hown : w.ownsRow B 4 1 v n (ks.map .bool)) (hvb : v.ownBlock ≠ some b)
    (hcall : ∀ W : World, W.heap[b]? = some (.cells #[.bool true, v, c, .int .i64 (nx r true : Nat)] 48 (0, 0)) → W.ownsRow B 4 1 v n (ks.map .bool) → Calls Try.prog 40 #[.pointer (some ⟨b, 0, none⟩), .bool true, .bool false] W fun e w' => Kept W w' B b v o f' c' (.int .i64 (nx r true : Nat)) ks' e) :
    Calls Try.prog 27 #[.pointer (some ⟨b, 0, none⟩), .bool true] w fun e w' => Kept w w' B b v o f' c' (.int .i64 (nx r true : Nat)) ks' e := by
  obtain ⟨⟨h0, h1, h2, h3⟩, z0, z1, z2, z3⟩ := ear_cells h
  have hlt := heap_lt h
  have H : Hid (w.heap[b]? = some (.cells #[.bool true, v, c, .int .i64 r] 48 (0, 0))) := h
  clear h
  go_enter Try.func27, Try.ntmps27
  go_wp2_with fail
  all_goals
    refine (bit_call (on := true) 40 #[.pointer (some ⟨b, 0, none⟩), .bool true, .bool false] H.out (by simp [nx]; omega) hown hvb hcall).mono ?_
    rintro e w2 ⟨vo, m, ca, K, D, rfl, ⟨c0, c1, f0, f1⟩, hfin⟩
    go_wp2
    exact bodyPost_ret (v := .tuple #[.agg #[.int .u8 K, .slice vo m ca], .bool D]) (by simp [results, Try.results27, go_sem, c0, c1]) rfl hfin.out

set_option maxRecDepth 100000 in
set_option maxHeartbeats 1000000 in
theorem bit_found0 (B b n r : Nat) (v c f' c' : Value) (o : Option (Nat × List Int)) (ks ks' : List Bool) (w : World) (h : w.heap[b]? = some (.cells #[.bool true, v, c, .int .i64 r] 48 (0, 0))) (_ : r ≤ 7) (h6 : r ≠ 6) (hown : w.ownsRow B 4 1 v n (ks.map .bool)) (hvb : v.ownBlock ≠ some b)
    (hcall : ∀ W : World, W.heap[b]? = some (.cells #[.bool true, v, c, .int .i64 (nx r false : Nat)] 48 (0, 0)) → W.ownsRow B 4 1 v n (ks.map .bool) → Calls Try.prog 40 #[.pointer (some ⟨b, 0, none⟩), .bool false, .bool false] W fun e w' => Kept W w' B b v o f' c' (.int .i64 (nx r false : Nat)) ks' e) :
    Calls Try.prog 27 #[.pointer (some ⟨b, 0, none⟩), .bool false] w fun e w' => Kept w w' B b v o f' c' (.int .i64 (nx r false : Nat)) ks' e := by
  obtain ⟨⟨h0, h1, h2, h3⟩, z0, z1, z2, z3⟩ := ear_cells h
  have hlt := heap_lt h
  have H : Hid (w.heap[b]? = some (.cells #[.bool true, v, c, .int .i64 r] 48 (0, 0))) := h
  clear h
  have b6 : ((r : Int) == 6) = false := by rw [beq_eq_false_iff_ne]; omega
  go_enter Try.func27, Try.ntmps27
  go_wp2_with fail
  all_goals
    refine (bit_call (on := false) 40 #[.pointer (some ⟨b, 0, none⟩), .bool false, .bool false] H.out (by simp [nx]) hown hvb hcall).mono ?_
    rintro e w2 ⟨vo, m, ca, K, D, rfl, ⟨c0, c1, f0, f1⟩, hfin⟩
    go_wp2
    exact bodyPost_ret (v := .tuple #[.agg #[.int .u8 K, .slice vo m ca], .bool D]) (by simp [results, Try.results27, go_sem, c0, c1]) rfl hfin.out

set_option maxRecDepth 100000 in
set_option maxHeartbeats 1000000 in
theorem bit_found6 (B b n : Nat) (v c f' c' : Value) (o : Option (Nat × List Int)) (ks ks' : List Bool) (w : World) (h : w.heap[b]? = some (.cells #[.bool true, v, c, .int .i64 (6 : Nat)] 48 (0, 0))) (hown : w.ownsRow B 4 1 v n (ks.map .bool)) (hvb : v.ownBlock ≠ some b)
    (hcall : ∀ W : World, W.heap[b]? = some (.cells #[.bool true, v, c, .int .i64 (nx 6 false : Nat)] 48 (0, 0)) → W.ownsRow B 4 1 v n (ks.map .bool) → Calls Try.prog 40 #[.pointer (some ⟨b, 0, none⟩), .bool false, .bool true] W fun e w' => Kept W w' B b v o f' c' (.int .i64 (nx 6 false : Nat)) ks' e) :
    Calls Try.prog 27 #[.pointer (some ⟨b, 0, none⟩), .bool false] w fun e w' => Kept w w' B b v o f' c' (.int .i64 (nx 6 false : Nat)) ks' e := by
  obtain ⟨⟨h0, h1, h2, h3⟩, z0, z1, z2, z3⟩ := ear_cells h
  have hlt := heap_lt h
  have H : Hid (w.heap[b]? = some (.cells #[.bool true, v, c, .int .i64 (6 : Nat)] 48 (0, 0))) := h
  clear h
  have e6 : (((6 : Nat) : Int) == 6) = true := by decide
  go_enter Try.func27, Try.ntmps27
  go_wp2_with fail
  all_goals
    refine (bit_call (on := false) 40 #[.pointer (some ⟨b, 0, none⟩), .bool false, .bool true] H.out (by simp [nx]) hown hvb hcall).mono ?_
    rintro e w2 ⟨vo, m, ca, K, D, rfl, ⟨c0, c1, f0, f1⟩, hfin⟩
    go_wp2
    exact bodyPost_ret (v := .tuple #[.agg #[.int .u8 K, .slice vo m ca], .bool D]) (by simp [results, Try.results27, go_sem, c0, c1]) rfl hfin.out


end Go.Proofs.Ytfjfnfofbhikdaa.Tape
