/- The contracts of a Hold's At, Send, Flush, Clear, Free. -/
import Derived.Test.YtldjglmelbkngaaGreatHold5
namespace Go.Proofs.YtldjglmelbkngaaGreat.Tape
open Go.ChangeShapes Go.WideShapes Go.ChangeAt Go.RowKit
set_option linter.unusedVariables false

set_option maxRecDepth 100000 in
set_option maxHeartbeats 1000000 in
theorem at_out (b B : Nat) (T : Nat → Prop) (s : Hs) (i : Int) (w : World) (h : HoldAt w b B T s) (hi : i < 0 ∨ s.sent.length ≤ i) :
    Calls Tryz.prog 151 #[.pointer (some ⟨b, 0, none⟩), .int .i64 i] w fun e w' => e = .returned (.tuple #[.int .u8 0, .slice none 0 0, .int .i64 2]) ∧ w' = w := by
  have hse := sent_any b B T s w h
  generalize s.sent.length = n at *
  by_cases h0 : i < 0
  · clear hi
    go_enter Tryz.func151, Tryz.ntmps151
    go_wp2
    go_ret3
    exact ⟨rfl, rfl⟩
  · have h1 : (n : Int) ≤ i := by omega
    have h2 : decide (i < 0) = false := decide_eq_false h0
    clear hi
    go_enter Tryz.func151, Tryz.ntmps151
    go_wp2_with (go_at_call 29; refine hse.mono ?_; rintro e w1 ⟨rfl, hw1⟩; obtain rfl := hw1.symm; clear hw1)
    go_ret3
    exact ⟨rfl, rfl⟩

set_option maxRecDepth 100000 in
set_option maxHeartbeats 1000000 in
theorem at_in (b B : Nat) (T : Nat → Prop) (s : Hs) (k : Nat) (w : World) (h : HoldAt w b B T s) (hk : k < s.sent.length) :
    Calls Tryz.prog 151 #[.pointer (some ⟨b, 0, none⟩), .int .i64 k] w fun e w' => ∃ v, e = .returned (.tuple #[.int .u8 ((s.first + k) % 128), v, .int .i64 0]) ∧ w'.ownsRow w.heap.size 5 1 v s.sent[k].length (s.sent[k].map (.int .u8)) ∧ Below w.heap.size w w' := by
  have hse := sent_any b B T s w h
  have hwin := h.fine.win
  have hnu := fun w1 (hB : Below w.heap.size w w1) => number_any b B T s k w1 (h.below hB) (by omega) (by omega)
  obtain ⟨sv, nv, rfl, hi⟩ := h
  obtain ⟨us, hrow, he⟩ := hi.sent
  obtain ⟨⟨c0, c1, c2, c3, c4, c5, c6⟩, -⟩ := hold_cells hi.cells
  obtain ⟨so, n, cap, rfl⟩ := hrow.form3
  obtain ⟨hn, hcap, -, hrd⟩ := hrow.cell
  have hlen := he.len
  have hku : k < us.length := by omega
  have hm := he.get k hku hk
  obtain ⟨m, mc, cur, hu, hcur, hBm, hmc, hrm⟩ := hm.form
  obtain ⟨g, off, rfl, hc⟩ := hrd k _ (List.getElem?_eq_getElem hku)
  rw [hu] at hc
  have h3 := hm.2.1
  have h273 := hm.2.2.1
  have hkn : k < n := by omega
  have HL : Hid (n = s.sent.length) := by show _ = _; omega
  rw [← HL.out] at hse
  generalize s.sent[k] = x at *
  obtain ⟨L, hL⟩ : ∃ L, x.length = L := ⟨_, rfl⟩
  rw [hL] at hc h3 h273
  rw [hL]
  have HX : Hid (x.length = L) := hL
  have HS : Hid (∀ W, Below w.heap.size w W → W.cell? ⟨b, 3, none⟩ = some (.slice (some ⟨g, off, none⟩) n cap) ∧ W.cell? ⟨g, off + k, none⟩ = some (.slice (some ⟨m, 0, none⟩) L mc)) :=
    fun W hB => ⟨(hB.cell (World.block_lt_of_cell? w _ c3)).trans c3, (hB.cell (World.block_lt_of_cell? w _ hc)).trans hc⟩
  have HR : Hid (∀ W, Below w.heap.size w W → Reads W (some ⟨m, 0, none⟩) (x.map (.int .u8))) := fun W hB => hrm.below (Nat.le_refl _) hB
  have HNU : Hid (∀ w1, Below w.heap.size w w1 → Calls Tryz.prog 149 #[.pointer (some ⟨b, 0, none⟩), .int .i64 k] w1 fun e w' => e = .returned (.int .u8 ((s.first + k) % 128)) ∧ w' = w1) := hnu
  have hD : Below w.heap.size w w.drew := (Below.refl _ _).drew
  clear hnu hm hrm hrd hi hrow he hcur hu hL hlen hn c0 c1 c2 c3 c4 c5 c6 hc hwin hk hBm
  go_enter Tryz.func151, Tryz.ntmps151
  go_wp2_with (go_at_call 29; refine hse.mono ?_; rintro e w1 ⟨rfl, hw1⟩; obtain rfl := hw1.symm; clear hw1)
  go_region_held (fun W => W.cell? ⟨b, 3, none⟩ = some (.slice (some ⟨g, off, none⟩) n cap) ∧ W.cell? ⟨g, off + k, none⟩ = some (.slice (some ⟨m, 0, none⟩) L mc)) ((refine HS.out _ ?_; assumption))
    (first
    | (go_at_call 149; refine (HNU.out _ hD).mono ?_; rintro e w1 ⟨rfl, hw1⟩; obtain rfl := hw1.symm; clear hw1)
    | (go_at_call 109; refine (clone_any m 0 L mc x _ HX.out (by omega) (HR.out _ hD)).mono ?_; rintro e w3 ⟨v3, rfl, hown3, hB3⟩; have hB4 := hD.trans (below_le hB3 hD.size)))
  go_wp2
  go_ret3
  exact ⟨v3, rfl, owns_lower hown3 hD.size, hB4⟩

theorem HoldAt.open {w : World} {b B : Nat} {T : Nat → Prop} {s : Hs} (h : HoldAt w b B T s) : ∃ sv nv, T = own b sv nv ∧ HoldIn w b B sv nv s := h

set_option maxRecDepth 100000 in
set_option maxHeartbeats 1000000 in
theorem send_none (b B : Nat) (T : Nat → Prop) (s : Hs) (w : World) (h : HoldAt w b B T s) (hs : s.next = []) :
    Calls Tryz.prog 142 #[.pointer (some ⟨b, 0, none⟩)] w fun e w' => e = .returned (.tuple #[.int .u8 0, .slice none 0 0, .int .i64 2]) ∧ w' = w := by
  have hne := next_any b B T s w h
  rw [hs] at hne
  simp only [List.length_nil] at hne
  go_enter Tryz.func142, Tryz.ntmps142
  go_wp2_with (go_at_call 32; refine hne.mono ?_; rintro e w1 ⟨rfl, hw1⟩; obtain rfl := hw1.symm; clear hw1)
  go_ret3
  exact ⟨rfl, rfl⟩

set_option maxRecDepth 100000 in
set_option maxHeartbeats 1000000 in
theorem send_full (b B : Nat) (T : Nat → Prop) (s : Hs) (w : World) (h : HoldAt w b B T s) (hs : s.next ≠ []) (h127 : 127 ≤ s.sent.length) :
    Calls Tryz.prog 142 #[.pointer (some ⟨b, 0, none⟩)] w fun e w' => e = .returned (.tuple #[.int .u8 0, .slice none 0 0, .int .i64 3]) ∧ w' = w := by
  have hne := next_any b B T s w h
  have hse := sent_any b B T s w h
  have hl : ¬ ((s.next.length : Nat) : Int) = 0 := by
    have := List.length_pos_iff.2 hs
    omega
  generalize s.next.length = n at *
  generalize s.sent.length = m at *
  go_enter Tryz.func142, Tryz.ntmps142
  go_wp2_with (first | (go_at_call 32; refine hne.mono ?_; rintro e w1 ⟨rfl, hw1⟩; obtain rfl := hw1.symm; clear hw1) | (go_at_call 29; refine hse.mono ?_; rintro e w1 ⟨rfl, hw1⟩; obtain rfl := hw1.symm; clear hw1))
  go_ret3
  exact ⟨rfl, rfl⟩

set_option maxRecDepth 100000 in
set_option maxHeartbeats 1000000 in
theorem send_ok (b B : Nat) (T : Nat → Prop) (s : Hs) (x : List Int) (xs : List (List Int)) (w : World) (h : HoldAt w b B T s) (hs : s.next = x :: xs) (h127 : s.sent.length < 127) (hB : B ≤ w.heap.size) :
    Calls Tryz.prog 142 #[.pointer (some ⟨b, 0, none⟩)] w fun e w' => ∃ v T', e = .returned (.tuple #[.int .u8 ((s.first + s.sent.length) % 128), v, .int .i64 0]) ∧ w'.ownsRow w.heap.size 5 1 v x.length (x.map (.int .u8)) ∧ HoldAt w' b B T' { s with sent := s.sent ++ [x], next := xs } ∧ Foot T T' w w' := by
  have hne := next_any b B T s w h
  have hse := sent_any b B T s w h
  obtain ⟨f1, f2, f3, f4, f5, f6⟩ := h.fine
  obtain ⟨n1, n2, n3, n4⟩ := h.fine.nums
  have hfine : Hs.Fine { s with sent := s.sent ++ [x], next := xs } := by
    rw [hs] at f5 f6
    simp only [List.length_cons, sz] at f5 f6
    refine ⟨f1, f2, f3, by simp only [List.length_append, List.length_singleton]; omega, .inr (by simp only [List.length_append, List.length_singleton]; omega), ?_⟩
    simp only [sz_append, sz]
    omega
  have hl : ¬ ((s.next.length : Nat) : Int) = 0 := by rw [hs]; simp only [List.length_cons]; omega
  have hD : Below w.heap.size w w.drew := (Below.refl _ _).drew
  obtain ⟨sv, nv, rfl, hi⟩ := h
  have hiD := hi.below hD
  obtain ⟨un, hrow, he⟩ := hiD.next
  obtain ⟨no, N, cap, rfl⟩ := hrow.form3
  have hlen := he.len
  rw [hs] at he hlen
  match un, he, hlen with
  | u :: un, he, hlen =>
    have hm := he.1
    obtain ⟨m, mc, cur, rfl, hcur, hBm, hmc, hrm⟩ := hm.form
    obtain ⟨-, -, -, hrd⟩ := hrow.cell
    obtain ⟨g, off, rfl, -⟩ := hrd 0 _ rfl
    obtain ⟨⟨-, -, -, -, -, c5, c6⟩, hz⟩ := hold_cells hiD.cells
    have hgb : g ≠ b := fun e => hiD.away.2 (by rw [e]; rfl)
    have hxl : x.length ≤ sz s.next := by rw [hs, sz]; omega
    have ht := take_any b 5 g off m x.length mc N cap (sz s.next) un w.drew c5 (hz 5) c6 (hz 6) hrow hgb (by omega) (by omega)
    have HI : Hid (HoldIn w.drew b B sv (.slice (some ⟨g, off, none⟩) N cap) s ∧ s.next = x :: xs ∧ Each (HMsg w.drew B) (.slice (some ⟨m, 0, none⟩) x.length mc :: un) s.next) := ⟨hiD, hs, by rw [hs]; exact he⟩
    have HM : Hid (HMsg w.drew B (.slice (some ⟨m, 0, none⟩) x.length mc) x) := hm
    have HF : Hid (Hs.Fine { s with sent := s.sent ++ [x], next := xs }) := hfine
    have H3 : Hid (x.length ≤ 273) := hm.2.2.1
    have HT : Hid (Calls Tryz.prog 147 #[.pointer (some ⟨b, 5, none⟩)] w.drew fun e w' => e = .returned (.slice (some ⟨m, 0, none⟩) x.length mc) ∧ ∃ v', RowAt (w.drew.setCell ⟨g, off, none⟩ (.slice none 0 0)) v' un ∧ v'.ownBlock = some g ∧ w' = ((w.drew.setCell ⟨g, off, none⟩ (.slice none 0 0)).setCell ⟨b, 5, none⟩ v').setCell ⟨b, 6, none⟩ (.int .i64 ((sz s.next : Nat) - (x.length : Nat)))) := ht
    have HD : Hid (Below w.heap.size w w.drew) := hD
    have HB : Hid (B ≤ w.heap.size) := hB
    clear hi hiD hm he hlen hrm hcur hrd c5 c6 hz hs hfine ht hrow hD f5 f6 hmc hBm hgb
    go_enter Tryz.func142, Tryz.ntmps142
    go_wp2_with (first | (go_at_call 32; refine hne.mono ?_; rintro e w1 ⟨rfl, hw1⟩; obtain rfl := hw1.symm; clear hw1) | (go_at_call 29; refine hse.mono ?_; rintro e w1 ⟨rfl, hw1⟩; obtain rfl := hw1.symm; clear hw1))
    go_region_with (first
      | (go_at_call 147; refine HT.out.mono ?_; rintro e w3 ⟨rfl, v3, hr3, hg3, hw3⟩; obtain ⟨hA, hFA⟩ := take_next HI.out.1 HI.out.2.1 HI.out.2.2 hr3 rfl hg3; rw [← hw3] at hA hFA; have hm3 := HI.out.1.msgs hFA.block _ _ HM.out; obtain ⟨us3, hrow3, he3⟩ := hA.sent; have HA : Hid (HoldIn w3 b B sv v3 { s with next := xs } ∧ Foot (own b sv (.slice (some ⟨g, off, none⟩) N cap)) (own b sv v3) w.drew w3 ∧ HMsg w3 B (.slice (some ⟨m, 0, none⟩) x.length mc) x ∧ RowAt w3 sv us3 ∧ Each (HMsg w3 B) us3 s.sent) := ⟨hA, hFA, hm3, hrow3, he3⟩; clear hA hFA hm3 hrow3 he3 hw3 hr3 hg3)
      | (go_at_call 108; refine (add_any b 3 sv (sz s.sent) us3 (some ⟨m, 0, none⟩) x.length mc w3 (hold_cells HA.out.1.cells).1.2.2.2.1 ((hold_cells HA.out.1.cells).2 3) (hold_cells HA.out.1.cells).1.2.2.2.2.1 ((hold_cells HA.out.1.cells).2 4) HA.out.2.2.2.1 HA.out.1.away.1 (by omega) (by omega) (by have := H3.out; omega) (by have := HA.out.2.2.2.2.len; omega)).mono ?_; rintro e w5 ⟨rfl, v5, w4, hr5, hg5, hm5, hw5⟩; have HW5 : Hid (w5 = (w4.setCell ⟨b, 3, none⟩ v5).setCell ⟨b, 4, none⟩ (.int .i64 ((sz s.sent : Nat) + (x.length : Nat)))) := hw5; clear hw5))
    have hBs : B ≤ w3.heap.size := Nat.le_trans HB.out HA.out.2.1.size
    obtain ⟨hA5, hF5⟩ := add_sent HA.out.1 HA.out.2.2.2.1 HA.out.2.2.2.2 HA.out.2.2.1 hr5 hg5 hm5 hBs HF.out
    rw [← HW5.out] at hA5 hF5
    have hat : HoldAt w5 b B (own b v5 v3) { s with sent := s.sent ++ [x], next := xs } := ⟨_, _, rfl, hA5⟩
    have hfoot : Foot (own b sv (.slice (some ⟨g, off, none⟩) N cap)) (own b v5 v3) w w5 := (Foot.of_below HD.out).trans (HA.out.2.1.trans hF5)
    have hse5 := sent_any b B _ _ w5 hat
    have hat5 := at_in b B _ _ s.sent.length w5 hat (by simp)
    have eg : (s.sent ++ [x])[s.sent.length]'(by simp) = x := by simp
    simp only [eg] at hat5
    simp only [List.length_append, List.length_singleton] at hse5
    have HAT : Hid (HoldAt w5 b B (own b v5 v3) { s with sent := s.sent ++ [x], next := xs } ∧ Foot (own b sv (.slice (some ⟨g, off, none⟩) N cap)) (own b v5 v3) w w5) := ⟨hat, hfoot⟩
    have hat6 : ∀ i : Int, i = (s.sent.length : Nat) → Calls Tryz.prog 151 #[.pointer (some ⟨b, 0, none⟩), .int .i64 i] w5 fun e w' => ∃ v, e = .returned (.tuple #[.int .u8 ((s.first + s.sent.length) % 128), v, .int .i64 0]) ∧ w'.ownsRow w5.heap.size 5 1 v x.length (x.map (.int .u8)) ∧ Below w5.heap.size w5 w' := fun i e => by subst e; exact hat5
    clear hat5
    clear hat hfoot hA5 hF5 HW5 HA hr5 hg5 hm5 hBs eg hne hse HT HI HM
    go_wp2_with (first | (go_at_call 29; refine hse5.mono ?_; rintro e w1 ⟨rfl, hw1⟩; obtain rfl := hw1.symm; clear hw1) | (go_at_call 151; refine (hat6 _ (by omega)).mono ?_; rintro e w6 ⟨v6, rfl, hown6, hB6⟩))
    go_ret3
    exact ⟨v6, _, rfl, owns_lower hown6 HAT.out.2.size, HAT.out.1.below hB6, HAT.out.2.trans (Foot.of_below hB6)⟩
end Go.Proofs.YtldjglmelbkngaaGreat.Tape
