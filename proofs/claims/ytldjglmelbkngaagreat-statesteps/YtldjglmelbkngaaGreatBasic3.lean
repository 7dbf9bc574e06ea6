/- The contract of a Basic's Next. -/
import Derived.Test.YtldjglmelbkngaaGreatBasic2
namespace Go.Proofs.YtldjglmelbkngaaGreat.Tape
open Go.ChangeShapes Go.WideShapes Go.ChangeAt Go.RowKit
set_option linter.unusedVariables false

/-- What is known of a message that waits. -/
theorem HoldAt.each {w : World} {b B : Nat} {T : Nat → Prop} {s : Hs} (h : HoldAt w b B T s) : (∀ x ∈ s.sent, 3 ≤ x.length ∧ x.length ≤ 273 ∧ ∀ y ∈ x, 0 ≤ y ∧ y ≤ 255) ∧ ∀ x ∈ s.next, 3 ≤ x.length ∧ x.length ≤ 273 ∧ ∀ y ∈ x, 0 ≤ y ∧ y ≤ 255 := by
  obtain ⟨sv, nv, -, hi⟩ := h
  have key : ∀ (us : List Value) (xs : List (List Int)), Each (HMsg w B) us xs → ∀ x ∈ xs, 3 ≤ x.length ∧ x.length ≤ 273 ∧ ∀ y ∈ x, 0 ≤ y ∧ y ≤ 255 := fun us xs he x hx => by
    obtain ⟨k, hk, rfl⟩ := List.getElem_of_mem hx
    exact (he.get k (by rw [he.len]; exact hk) hk).2
  obtain ⟨us, -, h1⟩ := hi.sent
  obtain ⟨un, -, h2⟩ := hi.next
  exact ⟨key _ _ h1, key _ _ h2⟩

theorem HMsg.below {w w' : World} {B : Nat} {u : Value} {xs : List Int} (h : HMsg w B u xs) (hb : Below w.heap.size w w') : HMsg w' B u xs := h.at_ fun g cur _ hg => hb.block g (heap_lt hg)
theorem HMsg.foot {w w' : World} {B : Nat} {T T' : Nat → Prop} {u : Value} {xs : List Int} (h : HMsg w B u xs) (hf : Foot T T' w w') (h5 : ∀ (g : Nat) cur, w.heap[g]? = some (.cells cur 5 (0, 0)) → ¬ T g) : HMsg w' B u xs := h.at_ fun g cur _ hg => hf.block g (heap_lt hg) (h5 g cur hg)
theorem HMsg.off {w w' : World} {B r : Nat} {u : Value} {xs : List Int} {cs : Array Value} {ty : TypeId} (h : HMsg w B u xs) (hg : w.grownBy w' (some r)) (hr : w.heap[r]? = some (.cells cs ty (0, 0))) (hty : ty ≠ 5) : HMsg w' B u xs := h.at_ fun g cur _ hgg => hg.block g (heap_lt hgg) fun e => by
  simp only [Option.some.injEq] at e
  subst e
  rw [hr] at hgg
  simp only [Option.some.injEq, Obj.cells.injEq] at hgg
  exact hty hgg.2.1

theorem Bs.to_last (t : Bs) (n : Nat) (k : Int) : (t.to n k).last = t.last := rfl
theorem Bs.to_bib (t : Bs) (n : Nat) (k : Int) : (t.to n k).bib = t.bib := rfl
theorem Bs.to_fib (t : Bs) (n : Nat) (k : Int) : (t.to n k).fib = t.fib := rfl

attribute [local go_sem ↓] ldU_def stU_def

set_option maxRecDepth 100000 in
set_option maxHeartbeats 2000000 in
theorem next_again (p hb B : Nat) (T0 : Nat → Prop) (t : Bs) (s : Hs) (k : Nat) (w : World) (h : BasIn w p hb B T0 t s) (hk : t.again = k) (hlt : k < s.sent.length) (hBw : B ≤ w.heap.size) :
    Calls Tryz.prog 160 #[.pointer (some ⟨p, 0, none⟩)] w fun e w' => ∃ v, e = .returned (.agg (uC t.last ((s.first + k) % 128) t.bib t.fib 2 v)) ∧ HMsg w' w.heap.size v s.sent[k] ∧ BasIn w' p hb B T0 (t.to s.sent.length (k + 1)) s ∧ Foot (fun g => g = p ∨ T0 g) (fun g => g = p ∨ T0 g) w w' := by
  obtain ⟨W, hW, hB, hh⟩ := new_unit w
  have hs := hB.size
  have h1 := h.below hB
  have hwin := h.hold.fine.win
  have hmsg := h.hold.each.1 _ (List.getElem_mem hlt)
  have hBD : Below W.heap.size W W.drew := (Below.refl _ _).drew
  have hat := at_in hb B T0 s k W.drew (h1.hold.below hBD) hlt
  have hp1 := heap_lt h1.cells
  have HR : Hid (∀ r, r = w.heap.size → (∀ g, (g = p ∨ T0 g) → g ≠ r)) := fun r hr g hg e => by
    have := (h.at_.lt g hg).2
    omega
  have HK : Hid (∀ w3 : World, Below W.heap.size W w3 → BasIn w3 p hb B T0 t s) := fun w3 hw3 => h1.below hw3
  have HS : Hid (∀ w3 : World, Below W.heap.size W w3 → w3.cell? ⟨p, 0, none⟩ = some (.pointer (some ⟨hb, 0, none⟩)) ∧ w3.cell? ⟨p, 5, none⟩ = some (.int .i64 k)) := fun w3 hw3 => by
    obtain ⟨⟨c0, -, -, -, -, c5, -⟩, -⟩ := bas_cells (h1.below hw3).cells
    rw [hk] at c5
    exact ⟨c0, c5⟩
  have HT : Hid (t.again = k) := hk
  generalize s.sent[k] = x at *
  clear h h1 hk
  go_enter Tryz.func160, Tryz.ntmps160
  go_upto_region 1 with fail
  rw [← hW]
  clear hW
  go_wp2_with fail
  go_region_held (fun W => W.cell? ⟨p, 0, none⟩ = some (.pointer (some ⟨hb, 0, none⟩)) ∧ W.cell? ⟨p, 5, none⟩ = some (.int .i64 k)) ((refine HS.out _ ?_; assumption))
    (first
    | (go_at_call 151; refine hat.mono ?_; rintro e w3 ⟨v, rfl, hown3, hB3⟩; obtain ⟨g3, c3', rfl⟩ := owns_some hown3 (by omega); have hB4 := hBD.trans (below_le hB3 hBD.size)))
  have hs3 := hB4.size
  have hin3 := HK.out _ hB4
  obtain ⟨c0, c5⟩ := HS.out _ hB4
  have hgo := goTo_any p hb B T0 t s (k + 1) w3 hin3 (by omega)
  have HM3 : Hid (HMsg w3 w.heap.size (.slice (some ⟨g3, 0, none⟩) x.length c3') x) := ⟨owns_lower hown3 (by have := hBD.size; omega), hmsg⟩
  have HH3 : Hid (w3.heap[w.heap.size]? = some (.cells zeroU 32 (0, 0))) := (hB4.block _ (heap_lt hh)).trans hh
  have HIN3 : Hid (BasIn w3 p hb B T0 t s) := hin3
  have HBW : Hid (Below w.heap.size w w3) := hB.trans (below_le hB4 hs)
  clear hown3 hB3 hin3 hB4 hh hB hmsg hat hBD
  go_wp2_with (go_at_call 164; refine hgo.mono ?_; rintro e w4 ⟨rfl, hin4, hF4⟩)
  have hh4 := (hF4.block _ (heap_lt HH3.out) (fun e => HR.out _ rfl _ e rfl)).trans HH3.out
  have hm4 := HM3.out.foot hF4 HIN3.out.at_.not5
  have hun := unit_any p hb B T0 _ s 2 ((s.first + k) % 128) (some ⟨g3, 0, none⟩) x.length c3' w4 hin4
  simp only [Bs.to_last, Bs.to_bib, Bs.to_fib] at hun
  have HIN4 : Hid (BasIn w4 p hb B T0 (t.to s.sent.length (k + 1)) s) := hin4
  have HF4 : Hid (Foot (fun g => g = p ∨ T0 g) (fun g => g = p ∨ T0 g) w3 w4) := hF4
  have HM4 : Hid (HMsg w4 w.heap.size (.slice (some ⟨g3, 0, none⟩) x.length c3') x) := hm4
  have HH4 : Hid (w4.heap[w.heap.size]? = some (.cells zeroU 32 (0, 0))) := hh4
  clear hin4 hF4 hm4 hh4 hgo c0 c5
  go_wp2_with (go_at_call 165; refine hun.mono ?_; rintro e w5 ⟨rfl, hB5⟩; have hh5 := (hB5.block _ (heap_lt HH4.out)).trans HH4.out; have hst := st_unit (ds := uC t.last ((s.first + k) % 128) t.bib t.fib 2 (.slice (some ⟨g3, 0, none⟩) x.length c3')) hh5 rfl rfl (uC_one _ _ _ _ _ _ _ _))
  have hld := (ld_unit (putU_heap (ds := uC t.last ((s.first + k) % 128) t.bib t.fib 2 (.slice (some ⟨g3, 0, none⟩) x.length c3')) hh5 rfl) rfl).2
  refine bodyPost_ret (v := .agg (uC t.last ((s.first + k) % 128) t.bib t.fib 2 (.slice (some ⟨g3, 0, none⟩) x.length c3'))) (by simp [results, Tryz.results160, asAddr, hld]) rfl ?_
  have hgb := putU_gb w5 w.heap.size (uC t.last ((s.first + k) % 128) t.bib t.fib 2 (.slice (some ⟨g3, 0, none⟩) x.length c3'))
  exact ⟨_, rfl, (HM4.out.below hB5).off hgb hh5 (by decide), (HIN4.out.below hB5).off hgb hh5, (((Foot.of_below HBW.out).trans HF4.out).trans (Foot.of_below hB5)).new hgb (Nat.le_refl _)⟩

set_option maxRecDepth 100000 in
set_option maxHeartbeats 2000000 in
theorem next_fill (p hb B : Nat) (T0 : Nat → Prop) (t : Bs) (s : Hs) (w : World) (h : BasIn w p hb B T0 t s) (ha : t.again < 0 ∨ s.sent.length ≤ t.again) (hn : s.next = [] ∨ 127 ≤ s.sent.length) :
    Calls Tryz.prog 160 #[.pointer (some ⟨p, 0, none⟩)] w fun e w' => e = .returned (.agg (uC t.last s.last t.bib t.fib 0 (.slice none 0 0))) ∧ BasIn w' p hb B T0 { t with again := -1 } s ∧ Foot (fun g => g = p ∨ T0 g) (fun g => g = p ∨ T0 g) w w' := by
  obtain ⟨W, hW, hB, hh⟩ := new_unit w
  have hs := hB.size
  have h1 := h.below hB
  have HR : Hid (∀ r, r = w.heap.size → (∀ g, (g = p ∨ T0 g) → g ≠ r)) := fun r hr g hg e => by
    have := (h.at_.lt g hg).2
    omega
  have HS : Hid (∀ w3 : World, Below W.heap.size W w3 → BasIn w3 p hb B T0 t s) := fun w3 hw3 => h1.below hw3
  have hat := fun q => at_out hb B T0 s t.again (W.drewN q) (h1.hold.drewN q) ha
  have hsend : ∀ w3, HoldAt w3 hb B T0 s → ∃ x, x ≠ 0 ∧ Calls Tryz.prog 142 #[.pointer (some ⟨hb, 0, none⟩)] w3 fun e w' => e = .returned (.tuple #[.int .u8 0, .slice none 0 0, .int .i64 x]) ∧ w' = w3 := fun w3 hw3 => by
    by_cases hne : s.next = []
    · exact ⟨2, by decide, send_none hb B T0 s w3 hw3 hne⟩
    · exact ⟨3, by decide, send_full hb B T0 s w3 hw3 hne (hn.resolve_left hne)⟩
  have HSE : Hid (∀ w3, HoldAt w3 hb B T0 s → ∃ x, x ≠ 0 ∧ Calls Tryz.prog 142 #[.pointer (some ⟨hb, 0, none⟩)] w3 fun e w' => e = .returned (.tuple #[.int .u8 0, .slice none 0 0, .int .i64 x]) ∧ w' = w3) := hsend
  obtain ⟨⟨c0, -, -, -, -, c5, -⟩, hz⟩ := bas_cells h1.cells
  have z5 := hz 5
  clear h h1 ha hn hz hsend
  go_enter Tryz.func160, Tryz.ntmps160
  go_upto_region 1 with fail
  rw [← hW]
  clear hW
  go_wp2_with fail
  go_quiet ((go_at_call 151; exact Calls.quiet_of_same (hat _)))
  go_upto_region 7 with fail
  obtain ⟨W3, hW3⟩ : ∃ W3, W3 = (W.drewN nq).setCell ⟨p, 5, none⟩ (.int .i64 (-1)) := ⟨_, rfl⟩
  have hBq : Below W.heap.size W (W.drewN nq) := below_drewN (Below.refl _ _) nq
  have hin2 := HS.out _ hBq
  obtain ⟨hin3, hF3⟩ := hin2.set (t' := { t with again := -1 }) (w' := (W.drewN nq).setCell ⟨p, 5, none⟩ (.int .i64 (-1))) (gb_set _) (row_set (bas_row hin2.cells) 5 _) hin2.last (by simp)
  rw [← hW3] at hin3 hF3 ⊢
  have hh3 := (hF3.block _ (heap_lt ((hBq.block _ (heap_lt hh)).trans hh)) (fun e => HR.out _ rfl _ e rfl)).trans ((hBq.block _ (heap_lt hh)).trans hh)
  have hF := (Foot.of_below (T := fun g => g = p ∨ T0 g) (hB.trans (below_le hBq hs))).trans hF3
  obtain ⟨x, hx, hse⟩ := HSE.out W3 hin3.hold
  obtain ⟨⟨d0, -⟩, -⟩ := bas_cells hin3.cells
  have hfi := fill_any p hb B T0 _ s W3 hin3
  simp only at hfi
  have HIN3 : Hid (BasIn W3 p hb B T0 { t with again := -1 } s) := hin3
  have HF : Hid (Foot (fun g => g = p ∨ T0 g) (fun g => g = p ∨ T0 g) w W3) := hF
  clear hW3 hin2 hF3 hF hBq hin3 hat c0 c5 z5 hB hh
  go_wp2_with (first | (go_at_call 142; refine hse.mono ?_; rintro e w4 ⟨rfl, hw4⟩; obtain rfl := hw4.symm; clear hw4) | (go_at_call 158; refine hfi.mono ?_; rintro e w5 ⟨rfl, hB5⟩; have hh5 := (hB5.block _ (heap_lt hh3)).trans hh3; have hst := st_unit (ds := uC t.last s.last t.bib t.fib 0 (.slice none 0 0)) hh5 rfl rfl (uC_one _ _ _ _ _ _ _ _)))
  have hld := (ld_unit (putU_heap (ds := uC t.last s.last t.bib t.fib 0 (.slice none 0 0)) hh5 rfl) rfl).2
  refine bodyPost_ret (v := .agg (uC t.last s.last t.bib t.fib 0 (.slice none 0 0))) (by simp [results, Tryz.results160, asAddr, hld]) rfl ?_
  have hgb := putU_gb w5 w.heap.size (uC t.last s.last t.bib t.fib 0 (.slice none 0 0))
  exact ⟨rfl, (HIN3.out.below hB5).off hgb hh5, (HF.out.trans (Foot.of_below hB5)).new hgb (Nat.le_refl _)⟩

set_option maxRecDepth 100000 in
set_option maxHeartbeats 2000000 in
theorem next_send (p hb B : Nat) (T0 : Nat → Prop) (t : Bs) (s : Hs) (x : List Int) (xs : List (List Int)) (w : World) (h : BasIn w p hb B T0 t s) (ha : t.again < 0 ∨ s.sent.length ≤ t.again) (hn : s.next = x :: xs) (h127 : s.sent.length < 127) (hBw : B ≤ w.heap.size) :
    Calls Tryz.prog 160 #[.pointer (some ⟨p, 0, none⟩)] w fun e w' => ∃ v T1, e = .returned (.agg (uC t.last ((s.first + s.sent.length) % 128) t.bib t.fib 2 v)) ∧ HMsg w' w.heap.size v x ∧ BasIn w' p hb B T1 { t with again := -1 } { s with sent := s.sent ++ [x], next := xs } ∧ Foot (fun g => g = p ∨ T0 g) (fun g => g = p ∨ T1 g) w w' := by
  obtain ⟨W, hW, hB, hh⟩ := new_unit w
  have hs := hB.size
  have h1 := h.below hB
  have hmsg := h.hold.each.2 x (by rw [hn]; simp)
  have HR : Hid (∀ r, r = w.heap.size → (∀ g, (g = p ∨ T0 g) → g ≠ r)) := fun r hr g hg e => by
    have := (h.at_.lt g hg).2
    omega
  have HS : Hid (∀ w3 : World, Below W.heap.size W w3 → BasIn w3 p hb B T0 t s) := fun w3 hw3 => h1.below hw3
  have hat := fun q => at_out hb B T0 s t.again (W.drewN q) (h1.hold.drewN q) ha
  obtain ⟨⟨c0, -, -, -, -, c5, -⟩, hz⟩ := bas_cells h1.cells
  have z5 := hz 5
  have HN : Hid (s.next = x :: xs) := hn
  clear h h1 ha hz hn
  go_enter Tryz.func160, Tryz.ntmps160
  go_upto_region 1 with fail
  rw [← hW]
  clear hW
  go_wp2_with fail
  go_quiet ((go_at_call 151; exact Calls.quiet_of_same (hat _)))
  go_upto_region 7 with fail
  obtain ⟨W3, hW3⟩ : ∃ W3, W3 = (W.drewN nq).setCell ⟨p, 5, none⟩ (.int .i64 (-1)) := ⟨_, rfl⟩
  have hBq : Below W.heap.size W (W.drewN nq) := below_drewN (Below.refl _ _) nq
  have hin2 := HS.out _ hBq
  obtain ⟨hin3, hF3⟩ := hin2.set (t' := { t with again := -1 }) (w' := (W.drewN nq).setCell ⟨p, 5, none⟩ (.int .i64 (-1))) (gb_set _) (row_set (bas_row hin2.cells) 5 _) hin2.last (by simp)
  rw [← hW3] at hin3 hF3 ⊢
  have hh3 := (hF3.block _ (heap_lt ((hBq.block _ (heap_lt hh)).trans hh)) (fun e => HR.out _ rfl _ e rfl)).trans ((hBq.block _ (heap_lt hh)).trans hh)
  have hF := (Foot.of_below (T := fun g => g = p ∨ T0 g) (hB.trans (below_le hBq hs))).trans hF3
  have hs3 := hF.size
  have hse := send_ok hb B T0 s x xs W3 hin3.hold HN.out h127 (by omega)
  obtain ⟨⟨d0, -⟩, -⟩ := bas_cells hin3.cells
  have HIN3 : Hid (BasIn W3 p hb B T0 { t with again := -1 } s) := hin3
  have HF : Hid (Foot (fun g => g = p ∨ T0 g) (fun g => g = p ∨ T0 g) w W3) := hF
  have HH3 : Hid (W3.heap[w.heap.size]? = some (.cells zeroU 32 (0, 0))) := hh3
  clear hW3 hin2 hF3 hF hBq hin3 hat c0 c5 z5 hB hh hh3
  go_wp2_with (go_at_call 142; refine hse.mono ?_; rintro e w4 ⟨v, T1, rfl, hown4, hat4, hF4⟩; obtain ⟨g4, cap4, rfl⟩ := owns_some hown4 (by omega); obtain ⟨hin4, hF4'⟩ := HIN3.out.step hat4 hF4; have hh4 := (hF4'.block _ (heap_lt HH3.out) (fun e => HR.out _ rfl _ e rfl)).trans HH3.out; have hun := unit_any p hb B T1 _ _ 2 ((s.first + s.sent.length) % 128) (some ⟨g4, 0, none⟩) x.length cap4 w4 hin4; simp only at hun; have HIN4 : Hid (BasIn w4 p hb B T1 { t with again := -1 } { s with sent := s.sent ++ [x], next := xs }) := hin4; have HF4 : Hid (Foot (fun g => g = p ∨ T0 g) (fun g => g = p ∨ T1 g) w w4) := HF.out.trans hF4'; have HO4 : Hid (HMsg w4 w.heap.size (.slice (some ⟨g4, 0, none⟩) x.length cap4) x) := ⟨owns_lower hown4 hs3, hmsg⟩; clear hown4 hat4 hF4 hF4' hin4)
  go_wp2_with (go_at_call 165; refine hun.mono ?_; rintro e w5 ⟨rfl, hB5⟩; have hh5 := (hB5.block _ (heap_lt hh4)).trans hh4; have hst := st_unit (ds := uC t.last ((s.first + s.sent.length) % 128) t.bib t.fib 2 (.slice (some ⟨g4, 0, none⟩) x.length cap4)) hh5 rfl rfl (uC_one _ _ _ _ _ _ _ _))
  have hld := (ld_unit (putU_heap (ds := uC t.last ((s.first + s.sent.length) % 128) t.bib t.fib 2 (.slice (some ⟨g4, 0, none⟩) x.length cap4)) hh5 rfl) rfl).2
  refine bodyPost_ret (v := .agg (uC t.last ((s.first + s.sent.length) % 128) t.bib t.fib 2 (.slice (some ⟨g4, 0, none⟩) x.length cap4))) (by simp [results, Tryz.results160, asAddr, hld]) rfl ?_
  have hgb := putU_gb w5 w.heap.size (uC t.last ((s.first + s.sent.length) % 128) t.bib t.fib 2 (.slice (some ⟨g4, 0, none⟩) x.length cap4))
  exact ⟨_, T1, rfl, (HO4.out.below hB5).off hgb hh5 (by decide), (HIN4.out.below hB5).off hgb hh5, (HF4.out.trans (Foot.of_below hB5)).new hgb (Nat.le_refl _)⟩
end Go.Proofs.YtldjglmelbkngaaGreat.Tape
