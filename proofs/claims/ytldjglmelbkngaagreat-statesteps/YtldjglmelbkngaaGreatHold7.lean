/- The contracts of a Hold's Flush, Clear, Free. -/
import Derived.Test.YtldjglmelbkngaaGreatHold6
namespace Go.Proofs.YtldjglmelbkngaaGreat.Tape
open Go.ChangeShapes Go.WideShapes Go.ChangeAt Go.RowKit
set_option linter.unusedVariables false

/-- The rows are thrown away, or one of them. -/
theorem wiped {w w' : World} {b B : Nat} {sv nv : Value} {s : Hs} (h : HoldIn w b B sv nv s) (hk : w.grownBy w' (some b)) (sv' nv' : Value) (f : Nat) (ms mn : List (List Int)) (hs : sv' = sv ∧ ms = s.sent ∨ sv' = .slice none 0 0 ∧ ms = []) (hn : nv' = nv ∧ mn = s.next ∨ nv' = .slice none 0 0 ∧ mn = []) (hf : f < 128)
    (hc : w'.heap[b]? = some (.cells #[.int .i64 s.most, .int .i64 s.oct, .int .u8 f, sv', .int .i64 (sz ms), nv', .int .i64 (sz mn)] 99 (0, 0))) : HoldIn w' b B sv' nv' ⟨s.most, s.oct, f, ms, mn⟩ ∧ Foot (own b sv nv) (own b sv' nv') w w' := by
  obtain ⟨aws, awn⟩ := h.away
  have hM := h.msgs (w' := w') (fun k hk' hne => hk.block k hk' (fun e => hne (.inl (by simpa using e))))
  obtain ⟨h1, ⟨us, h2, h3⟩, ⟨uo, h4, h5⟩, h6, h7, h8, f1, f2, f3, f4, f5, f6⟩ := h
  have hnil : ∀ g, (Value.slice none 0 0).ownBlock = some g → False := fun g e => by simp [Value.ownBlock] at e
  have o1 : ∀ g, sv'.ownBlock = some g → sv.ownBlock = some g := fun g e => by
    rcases hs with ⟨rfl, _⟩ | ⟨rfl, _⟩
    · exact e
    · exact (hnil g e).elim
  have o2 : ∀ g, nv'.ownBlock = some g → nv.ownBlock = some g := fun g e => by
    rcases hn with ⟨rfl, _⟩ | ⟨rfl, _⟩
    · exact e
    · exact (hnil g e).elim
  refine ⟨⟨hc, ?_, ?_, fun g e1 e2 => h6 g (o1 g e1) (o2 g e2), fun g e => h7 g (o1 g e), fun g e => h8 g (o2 g e), ⟨f1, f2, hf, ?_, ?_, ?_⟩⟩, ⟨hk.os, hk.tape, hk.output, hk.size, fun k hk' hne => hk.block k hk' (fun e => hne (.inl (by simpa using e))), fun g hg => ?_⟩⟩
  · rcases hs with ⟨rfl, rfl⟩ | ⟨rfl, rfl⟩
    · exact ⟨us, h2.at_ fun g hg => hk.block g (h2.lt g hg) (fun e => aws (by rw [hg, e])), h3.mono hM⟩
    · exact ⟨[], RowAt.nil _, trivial⟩
  · rcases hn with ⟨rfl, rfl⟩ | ⟨rfl, rfl⟩
    · exact ⟨uo, h4.at_ fun g hg => hk.block g (h4.lt g hg) (fun e => awn (by rw [hg, e])), h5.mono hM⟩
    · exact ⟨[], RowAt.nil _, trivial⟩
  · rcases hs with ⟨-, rfl⟩ | ⟨-, rfl⟩
    · exact f4
    · simp
  · rcases hs with ⟨-, rfl⟩ | ⟨-, rfl⟩ <;> rcases hn with ⟨-, rfl⟩ | ⟨-, rfl⟩ 
    · exact f5
    · rcases f5 with f5 | f5
      · exact .inl ⟨f5.1, rfl⟩
      · exact .inr (by simp only [List.length_nil]; omega)
    · rcases f5 with f5 | f5
      · exact .inl ⟨rfl, f5.2⟩
      · exact .inr (by simp only [List.length_nil]; omega)
    · exact .inl ⟨rfl, rfl⟩
  · rcases hs with ⟨-, rfl⟩ | ⟨-, rfl⟩ <;> rcases hn with ⟨-, rfl⟩ | ⟨-, rfl⟩ 
    · exact f6
    · rcases f6 with f6 | f6
      · exact .inl ⟨f6.1, rfl⟩
      · exact .inr (by simp only [sz]; omega)
    · rcases f6 with f6 | f6
      · exact .inl ⟨rfl, f6.2⟩
      · exact .inr (by simp only [sz]; omega)
    · exact .inl ⟨rfl, rfl⟩
  · rcases hg with e | e | e
    · exact .inl (.inl e)
    · exact .inl (.inr (.inl (o1 g e)))
    · exact .inl (.inr (.inr (o2 g e)))

set_option maxRecDepth 100000 in
set_option maxHeartbeats 1000000 in
theorem flush_any (b B : Nat) (T : Nat → Prop) (s : Hs) (w : World) (h : HoldAt w b B T s) :
    Calls Tryz.prog 55 #[.pointer (some ⟨b, 0, none⟩)] w fun e w' => e = .returned (.int .i64 s.next.length) ∧ ∃ T', HoldAt w' b B T' { s with next := [] } ∧ Foot T T' w w' := by
  have hne := next_any b B T s w h
  by_cases h0 : s.next.length = 0
  · have e : ({ s with next := [] } : Hs) = s := by
      have := List.eq_nil_of_length_eq_zero h0
      cases s
      simp at this
      simp [this]
    have HE : Hid (({ s with next := [] } : Hs) = s) := e
    have HH : Hid (HoldAt w b B T s) := h
    rw [h0] at hne
    rw [h0]
    clear e h h0
    go_enter Tryz.func55, Tryz.ntmps55
    go_wp2_with (go_at_call 32; refine hne.mono ?_; rintro e w1 ⟨rfl, hw1⟩; obtain rfl := hw1.symm; clear hw1)
    go_ret
    refine ⟨rfl, T, ?_, Foot.refl _ _⟩
    rw [HE.out]
    exact HH.out
  · obtain ⟨sv, nv, rfl, hi⟩ := h
    obtain ⟨⟨c0, c1, c2, c3, c4, c5, c6⟩, hz⟩ := hold_cells hi.cells
    have z5 := hz 5
    have z6 := hz 6
    have HI : Hid (HoldIn w b B sv nv s) := hi
    have hp : (0 : Int) < s.next.length := by omega
    generalize hN : s.next.length = N at *
    clear hi hz c0 c1 c2 c3 c4 hN
    go_enter Tryz.func55, Tryz.ntmps55
    go_wp2_with (go_at_call 32; refine hne.mono ?_; rintro e w1 ⟨rfl, hw1⟩; obtain rfl := hw1.symm; clear hw1)
    go_ret
    obtain ⟨hA, hF⟩ := wiped HI.out ((gb_set (b := b) (k := 5) (.slice none 0 0)).trans (gb_set (b := b) (k := 6) (.int .i64 0))) sv (.slice none 0 0) s.first s.sent [] (.inl ⟨rfl, rfl⟩) (.inr ⟨rfl, rfl⟩) HI.out.fine.first
      (row_set (row_set (cs := [.int .i64 s.most, .int .i64 s.oct, .int .u8 s.first, sv, .int .i64 (sz s.sent), nv, .int .i64 (sz s.next)]) HI.out.cells 5 (.slice none 0 0)) 6 (.int .i64 0))
    exact ⟨rfl, _, ⟨_, _, rfl, hA⟩, hF⟩

set_option maxRecDepth 100000 in
set_option maxHeartbeats 1000000 in
theorem clear_any (b B : Nat) (T : Nat → Prop) (s : Hs) (w : World) (h : HoldAt w b B T s) :
    Calls Tryz.prog 112 #[.pointer (some ⟨b, 0, none⟩)] w fun e w' => e = .returned (.tuple #[]) ∧ ∃ T', HoldAt w' b B T' ⟨s.most, s.oct, 0, [], []⟩ ∧ Foot T T' w w' := by
  obtain ⟨sv, nv, rfl, hi⟩ := h
  obtain ⟨⟨c0, c1, c2, c3, c4, c5, c6⟩, hz⟩ := hold_cells hi.cells
  have z2 := hz 2
  have z3 := hz 3
  have z4 := hz 4
  have z5 := hz 5
  have z6 := hz 6
  have HI : Hid (HoldIn w b B sv nv s) := hi
  clear hi hz c0 c1
  go_enter Tryz.func112, Tryz.ntmps112
  go_wp2
  refine bodyPost_end (results_none rfl _ _ _) rfl ?_
  obtain ⟨hA, hF⟩ := wiped HI.out (((((gb_set (b := b) (k := 2) (.int .u8 0)).trans (gb_set (b := b) (k := 3) (.slice none 0 0))).trans (gb_set (b := b) (k := 4) (.int .i64 0))).trans (gb_set (b := b) (k := 5) (.slice none 0 0))).trans (gb_set (b := b) (k := 6) (.int .i64 0))) (.slice none 0 0) (.slice none 0 0) 0 [] [] (.inr ⟨rfl, rfl⟩) (.inr ⟨rfl, rfl⟩) (by omega)
    (row_set (row_set (row_set (row_set (row_set (cs := [.int .i64 s.most, .int .i64 s.oct, .int .u8 s.first, sv, .int .i64 (sz s.sent), nv, .int .i64 (sz s.next)]) HI.out.cells 2 (.int .u8 0)) 3 (.slice none 0 0)) 4 (.int .i64 0)) 5 (.slice none 0 0)) 6 (.int .i64 0))
  exact ⟨rfl, _, ⟨_, _, rfl, hA⟩, hF⟩

set_option maxRecDepth 100000 in
set_option maxHeartbeats 1000000 in
theorem tos_any (b B : Nat) (T : Nat → Prop) (s : Hs) (x : List Int) (xs : List (List Int)) (w : World) (h : HoldAt w b B T s) (hs : s.sent = x :: xs) :
    Calls Tryz.prog 147 #[.pointer (some ⟨b, 3, none⟩)] w fun e w' => (∃ v, e = .returned v) ∧ ∃ T', HoldAt w' b B T' { s with sent := xs } ∧ Foot T T' w w' := by
  obtain ⟨n1, n2, n3, n4⟩ := h.fine.nums
  obtain ⟨sv, nv, rfl, hi⟩ := h
  obtain ⟨un, hrow, he⟩ := hi.sent
  obtain ⟨no, N, cap, rfl⟩ := hrow.form3
  rw [hs] at he
  match un, he with
  | u :: un, he =>
    have hm := he.1
    obtain ⟨m, mc, cur, rfl, hcur, hBm, hmc, hrm⟩ := hm.form
    obtain ⟨-, -, -, hrd⟩ := hrow.cell
    obtain ⟨g, off, rfl, -⟩ := hrd 0 _ rfl
    obtain ⟨⟨-, -, -, c3, c4, -, -⟩, hz⟩ := hold_cells hi.cells
    have hgb : g ≠ b := fun e => hi.away.1 (by rw [e]; rfl)
    have hxl : x.length ≤ sz s.sent := by rw [hs, sz]; omega
    refine (take_any b 3 g off m x.length mc N cap (sz s.sent) un w c3 (hz 3) c4 (hz 4) hrow hgb (by omega) (by omega)).mono ?_
    rintro e w' ⟨rfl, v', hr, hg, rfl⟩
    obtain ⟨hA, hF⟩ := take_sent hi hs (by rw [hs]; exact he) hr rfl hg
    exact ⟨⟨_, rfl⟩, _, ⟨_, _, rfl, hA⟩, hF⟩

theorem first_set {w : World} {b B : Nat} {T : Nat → Prop} {s : Hs} (h : HoldAt w b B T s) (f : Nat) (hf : f < 128) : HoldAt (w.setCell ⟨b, 2, none⟩ (.int .u8 f)) b B T { s with first := f } ∧ Foot T T w (w.setCell ⟨b, 2, none⟩ (.int .u8 f)) := by
  obtain ⟨sv, nv, rfl, hi⟩ := h
  obtain ⟨hA, hF⟩ := wiped hi (gb_set (b := b) (k := 2) (.int .u8 f)) sv nv f s.sent s.next (.inl ⟨rfl, rfl⟩) (.inl ⟨rfl, rfl⟩) hf
    (row_set (cs := [.int .i64 s.most, .int .i64 s.oct, .int .u8 s.first, sv, .int .i64 (sz s.sent), nv, .int .i64 (sz s.next)]) hi.cells 2 (.int .u8 f))
  exact ⟨⟨_, _, rfl, hA⟩, hF⟩

set_option maxRecDepth 100000 in
set_option maxHeartbeats 1000000 in
theorem free_no (b B : Nat) (T : Nat → Prop) (s : Hs) (n : Int) (w : World) (h : HoldAt w b B T s) (h0 : 0 ≤ n) (h1 : n ≤ 255) (hk : s.knows n = false) :
    Calls Tryz.prog 137 #[.pointer (some ⟨b, 0, none⟩), .int .u8 n] w fun e w' => e = .returned (.tuple #[.int .i64 0, .int .i64 10]) ∧ w' = w := by
  have hkn := knows_any b B T s n w h h0 h1
  rw [hk] at hkn
  clear h hk
  go_enter Tryz.func137, Tryz.ntmps137
  go_wp2_with (go_at_call 145; refine hkn.mono ?_; rintro e w1 ⟨rfl, hw1⟩; obtain rfl := hw1.symm; clear hw1)
  go_ret2
  exact ⟨rfl, rfl⟩

/-- What Free leaves. -/
def Hs.free (s : Hs) (n : Int) : Hs := { s with sent := s.sent.drop (s.upTo n), first := ((n + 1) % 128).toNat }

set_option maxRecDepth 100000 in
set_option maxHeartbeats 1000000 in
theorem free_ok (b B : Nat) (T : Nat → Prop) (s : Hs) (n : Int) (w : World) (h : HoldAt w b B T s) (h0 : 0 ≤ n) (hk : s.knows n = true) :
    Calls Tryz.prog 137 #[.pointer (some ⟨b, 0, none⟩), .int .u8 n] w fun e w' => e = .returned (.tuple #[.int .i64 (s.upTo n), .int .i64 0]) ∧ ∃ T', HoldAt w' b B T' (s.free n) ∧ Foot T T' w w' := by
  have hk' : n < 128 ∧ (n - s.first + 1) % 128 ≤ s.sent.length := by simpa [Hs.knows] using hk
  have hkn := knows_any b B T s n w h h0 (by omega)
  have hup := upTo_any b B T s n w h h0 (by omega)
  rw [hk] at hkn
  have hU : s.upTo n ≤ s.sent.length := by unfold Hs.upTo; omega
  have hU2 : s.upTo n < 128 := by unfold Hs.upTo; omega
  have HE : Hid (s.free n = { s with sent := s.sent.drop (s.upTo n), first := ((n + 1) % 128).toNat }) := rfl
  generalize s.upTo n = k at *
  obtain ⟨hn, -⟩ := hk'
  have HH : Hid (HoldAt w b B T s) := h
  clear h hk
  go_enter Tryz.func137, Tryz.ntmps137
  go_wp2_with (first | (go_at_call 145; refine hkn.mono ?_; rintro e w1 ⟨rfl, hw1⟩; obtain rfl := hw1.symm; clear hw1) | (go_at_call 146; refine hup.mono ?_; rintro e w1 ⟨rfl, hw1⟩; obtain rfl := hw1.symm; clear hw1))
  go_loopw [15] (fun i wr => ∃ (j : Nat) (T1 : Nat → Prop), j ≤ k ∧ i = .int .i64 j ∧ HoldAt wr b B T1 { s with sent := s.sent.drop j } ∧ Foot T T1 w wr) (fun i _ => k - (intOf i).toNat)
  case atStart => exact ⟨0, T, by omega, rfl, HH.out, Foot.refl _ _⟩
  case round =>
    obtain ⟨j, T1, hj, rfl, hat, hft⟩ := hrel
    by_cases hlt : j < k
    · have hjl : j < s.sent.length := by omega
      have hto := tos_any b B T1 _ s.sent[j] (s.sent.drop (j + 1)) wr hat (List.drop_eq_getElem_cons hjl)
      go_wp2_with (go_at_call 147; refine hto.mono ?_; rintro e w1 ⟨⟨v1, rfl⟩, T2, hat2, hft2⟩)
      go_roundw
      case rel => exact ⟨j + 1, T2, by omega, by go_num, hat2, hft.trans hft2⟩
      case measure => simp [intOf]; omega
    · obtain rfl : j = k := by omega
      obtain ⟨sv, nv, hT, hi⟩ := hat.open
      obtain ⟨⟨-, -, c2, -, -, -, -⟩, hz⟩ := hold_cells hi.cells
      have z2 := hz 2
      have HAT : Hid (HoldAt wr b B T1 { s with sent := s.sent.drop j }) := hat
      have HFT : Hid (Foot T T1 w wr) := hft
      have hnx := Ring.next_any n h0 (by omega) wr
      obtain ⟨r, hr⟩ : ∃ r : Nat, (n + 1) % 128 = r := ⟨((n + 1) % 128).toNat, by omega⟩
      have hr2 : r < 128 := by omega
      rw [hr] at hnx
      have HR : Hid ((n + 1) % 128 = r) := hr
      clear hi hz hT hat hft hr hlt
      go_wp2_with (go_at_call 144; refine hnx.mono ?_; rintro e w1 ⟨rfl, hw1⟩; obtain rfl := hw1.symm; clear hw1)
      go_ret2
      obtain ⟨hA, hF⟩ := first_set HAT.out r hr2
      refine ⟨rfl, T1, ?_, HFT.out.trans hF⟩
      rw [HE.out, HR.out]
      exact hA
end Go.Proofs.YtldjglmelbkngaaGreat.Tape
