/- The contracts of a Hold's methods that only read: Sent, Next, Octets, Waiting, First, number, Last, Size, Knows, upTo; and of New. -/
import Derived.Test.YtldjglmelbkngaaGreatHold2
import Derived.Deep.QuietTactic
import Derived.BigQuiet
namespace Go.Proofs.YtldjglmelbkngaaGreat.Tape
open Go.ChangeShapes Go.WideShapes Go.ChangeAt Go.RowKit
set_option linter.unusedVariables false

/-- A Hold's rows, written out. -/
theorem HoldIn.rows {w : World} {b B : Nat} {sv nv : Value} {s : Hs} (h : HoldIn w b B sv nv s) : ∃ so sc no nc, sv = .slice so s.sent.length sc ∧ nv = .slice no s.next.length nc := by
  obtain ⟨us, h1, h2⟩ := h.sent
  obtain ⟨un, h3, h4⟩ := h.next
  obtain ⟨so, sc, e1⟩ := h1.form
  obtain ⟨no, nc, e2⟩ := h3.form
  exact ⟨so, sc, no, nc, by rw [e1, h2.len], by rw [e2, h4.len]⟩

theorem HoldAt.drewN {w : World} {b B : Nat} {T : Nat → Prop} {s : Hs} (h : HoldAt w b B T s) (q : Nat) : HoldAt (w.drewN q) b B T s := h.below (below_drewN (Below.refl _ _) q)

theorem sz_nil_of {l : List (List Int)} (h : l.length = 0) : sz l = 0 := by
  obtain rfl := List.eq_nil_of_length_eq_zero h
  rfl

/-- What the numbers of a Hold are at most. -/
theorem Hs.Fine.nums {s : Hs} (h : s.Fine) : s.next.length ≤ 1048576 ∧ sz s.sent ≤ 1099511627776 ∧ sz s.next ≤ 1099511627776 ∧ sz s.sent + sz s.next ≤ 1099511627776 := by
  obtain ⟨h1, h2, h3, h4, h5, h6⟩ := h
  omega

set_option maxRecDepth 100000 in
set_option maxHeartbeats 400000 in
theorem sent_any (b B : Nat) (T : Nat → Prop) (s : Hs) (w : World) (h : HoldAt w b B T s) : Calls Tryz.prog 29 #[.pointer (some ⟨b, 0, none⟩)] w fun e w' => e = .returned (.int .i64 s.sent.length) ∧ w' = w := by
  obtain ⟨sv, nv, -, h⟩ := h
  obtain ⟨so, sc, no, nc, rfl, rfl⟩ := h.rows
  obtain ⟨⟨c0, c1, c2, c3, c4, c5, c6⟩, -⟩ := hold_cells h.cells
  go_enter Tryz.func29, Tryz.ntmps29
  go_wp2
  go_ret
  exact ⟨rfl, rfl⟩

set_option maxRecDepth 100000 in
set_option maxHeartbeats 400000 in
theorem next_any (b B : Nat) (T : Nat → Prop) (s : Hs) (w : World) (h : HoldAt w b B T s) : Calls Tryz.prog 32 #[.pointer (some ⟨b, 0, none⟩)] w fun e w' => e = .returned (.int .i64 s.next.length) ∧ w' = w := by
  obtain ⟨sv, nv, -, h⟩ := h
  obtain ⟨so, sc, no, nc, rfl, rfl⟩ := h.rows
  obtain ⟨⟨c0, c1, c2, c3, c4, c5, c6⟩, -⟩ := hold_cells h.cells
  go_enter Tryz.func32, Tryz.ntmps32
  go_wp2
  go_ret
  exact ⟨rfl, rfl⟩

set_option maxRecDepth 100000 in
set_option maxHeartbeats 400000 in
theorem waiting_any (b B : Nat) (T : Nat → Prop) (s : Hs) (w : World) (h : HoldAt w b B T s) : Calls Tryz.prog 155 #[.pointer (some ⟨b, 0, none⟩)] w fun e w' => e = .returned (.int .i64 (sz s.sent)) ∧ w' = w := by
  obtain ⟨sv, nv, -, h⟩ := h
  obtain ⟨⟨c0, c1, c2, c3, c4, c5, c6⟩, -⟩ := hold_cells h.cells
  go_enter Tryz.func155, Tryz.ntmps155
  go_wp2
  go_ret
  exact ⟨rfl, rfl⟩

set_option maxRecDepth 100000 in
set_option maxHeartbeats 400000 in
theorem first_any (b B : Nat) (T : Nat → Prop) (s : Hs) (w : World) (h : HoldAt w b B T s) : Calls Tryz.prog 41 #[.pointer (some ⟨b, 0, none⟩)] w fun e w' => e = .returned (.int .u8 s.first) ∧ w' = w := by
  obtain ⟨sv, nv, -, h⟩ := h
  obtain ⟨⟨c0, c1, c2, c3, c4, c5, c6⟩, -⟩ := hold_cells h.cells
  go_enter Tryz.func41, Tryz.ntmps41
  go_wp2
  go_ret
  exact ⟨rfl, rfl⟩

set_option maxRecDepth 100000 in
set_option maxHeartbeats 400000 in
theorem octets_any (b B : Nat) (T : Nat → Prop) (s : Hs) (w : World) (h : HoldAt w b B T s) : Calls Tryz.prog 33 #[.pointer (some ⟨b, 0, none⟩)] w fun e w' => e = .returned (.int .i64 ((sz s.sent + sz s.next : Nat) : Int)) ∧ ∃ q, w' = w.drewN q := by
  have hn := h.fine.nums
  obtain ⟨sv, nv, -, h⟩ := h
  obtain ⟨⟨c0, c1, c2, c3, c4, c5, c6⟩, -⟩ := hold_cells h.cells
  clear h
  generalize sz s.sent = x at *
  generalize sz s.next = y at *
  obtain ⟨-, x1, y1, -⟩ := hn
  go_enter Tryz.func33, Tryz.ntmps33
  go_wp2_with fail
  go_quiet (fail)
  go_wp2
  go_ret
  exact ⟨ret_int (by omega), _, rfl⟩

set_option maxRecDepth 100000 in
set_option maxHeartbeats 400000 in
theorem number_any (b B : Nat) (T : Nat → Prop) (s : Hs) (i : Int) (w : World) (h : HoldAt w b B T s) (h0 : -1000000 ≤ i) (h1 : i ≤ 1000000) : Calls Tryz.prog 149 #[.pointer (some ⟨b, 0, none⟩), .int .i64 i] w fun e w' => e = .returned (.int .u8 ((s.first + i) % 128)) ∧ w' = w := by
  have hf := h.fine.first
  have hfi := first_any b B T s w h
  clear h
  generalize s.first = f at *
  go_enter Tryz.func149, Tryz.ntmps149
  go_wp2_with (first | (go_at_call 41; refine hfi.mono ?_; rintro e w1 ⟨rfl, hw1⟩; obtain rfl := hw1.symm; clear hw1) | (go_at_call 152; refine (Ring.at_any _ _).mono ?_; rintro e w1 ⟨rfl, hw1⟩; obtain rfl := hw1.symm; clear hw1))
  go_ret
  exact ⟨rfl, rfl⟩

/-- The last one's number. -/
def Hs.last (s : Hs) : Int := (s.first + s.sent.length - 1) % 128

set_option maxRecDepth 100000 in
set_option maxHeartbeats 400000 in
theorem last_any (b B : Nat) (T : Nat → Prop) (s : Hs) (w : World) (h : HoldAt w b B T s) : Calls Tryz.prog 140 #[.pointer (some ⟨b, 0, none⟩)] w fun e w' => e = .returned (.int .u8 s.last) ∧ w' = w := by
  have hf := h.fine.first
  have hwn := h.fine.win
  have hse := sent_any b B T s w h
  have hnu := number_any b B T s s.sent.length w h (by omega) (by omega)
  clear h
  have hL : s.last = ((s.first + s.sent.length) % 128 - 1) % 128 := by unfold Hs.last; omega
  rw [hL]
  clear hL
  generalize s.first = f at *
  generalize s.sent.length = n at *
  have hr : 0 ≤ ((f : Int) + n) % 128 ∧ ((f : Int) + n) % 128 < 128 := by omega
  generalize ((f : Int) + n) % 128 = r at *
  go_enter Tryz.func140, Tryz.ntmps140
  go_wp2_with (first | (go_at_call 29; refine hse.mono ?_; rintro e w1 ⟨rfl, hw1⟩; obtain rfl := hw1.symm; clear hw1) | (go_at_call 149; refine hnu.mono ?_; rintro e w1 ⟨rfl, hw1⟩; obtain rfl := hw1.symm; clear hw1) | (go_at_call 148; refine (Ring.prev_any r (by omega) (by omega) _).mono ?_; rintro e w1 ⟨rfl, hw1⟩; obtain rfl := hw1.symm; clear hw1))
  go_ret
  exact ⟨rfl, rfl⟩

/-- How many octets the next one has. -/
def Hs.size (s : Hs) : Nat := match s.next with | [] => 0 | x :: _ => x.length

set_option maxRecDepth 100000 in
set_option maxHeartbeats 400000 in
theorem size_any (b B : Nat) (T : Nat → Prop) (s : Hs) (w : World) (h : HoldAt w b B T s) : Calls Tryz.prog 156 #[.pointer (some ⟨b, 0, none⟩)] w fun e w' => e = .returned (.int .i64 s.size) ∧ w' = w := by
  have hne := next_any b B T s w h
  obtain ⟨sv, nv, -, h⟩ := h
  obtain ⟨⟨c0, c1, c2, c3, c4, c5, c6⟩, -⟩ := hold_cells h.cells
  obtain ⟨un, hr, he⟩ := h.next
  obtain ⟨no, nc, rfl⟩ := hr.form
  obtain ⟨-, -, -, hrd⟩ := hr.cell
  unfold Hs.size
  have hlen := he.len
  clear h hr c0 c1 c2 c3 c4 c6
  cases hn : s.next with
  | nil =>
    rw [hn] at hne
    simp only [List.length_nil] at hne
    go_enter Tryz.func156, Tryz.ntmps156
    go_wp2_with (go_at_call 32; refine hne.mono ?_; rintro e w1 ⟨rfl, hw1⟩; obtain rfl := hw1.symm; clear hw1)
    go_ret
    exact ⟨rfl, rfl⟩
  | cons x xs =>
    show Calls Tryz.prog 156 #[.pointer (some ⟨b, 0, none⟩)] w fun e w' => e = .returned (.int .i64 x.length) ∧ w' = w
    rw [hn] at he hne hlen
    match un, he with
    | u :: us, ⟨hm, _⟩ =>
      obtain ⟨m, cap, cur, rfl, -, -, -, -⟩ := hm.form
      obtain ⟨g, off, rfl, hc⟩ := hrd 0 _ rfl
      rw [Nat.add_zero] at hc
      have hl3 := hm.2.1
      have hl4 := hm.2.2.1
      simp only [List.length_cons] at hne hlen c5
      clear hm hrd he hn
      generalize xs.length = L at *
      generalize us.length = L' at *
      generalize x.length = X at *
      have hL0 : ¬ ((L + 1 : Nat) : Int) = 0 := by omega
      go_enter Tryz.func156, Tryz.ntmps156
      go_wp2_with (go_at_call 32; refine hne.mono ?_; rintro e w1 ⟨rfl, hw1⟩; obtain rfl := hw1.symm; clear hw1)
      go_ret
      exact ⟨rfl, rfl⟩

/-- May a number be an answer? -/
def Hs.knows (s : Hs) (n : Int) : Bool := decide (n < 128 ∧ (n - s.first + 1) % 128 ≤ s.sent.length)
/-- How many wait up to a number. -/
def Hs.upTo (s : Hs) (n : Int) : Nat := ((n - s.first + 1) % 128).toNat

set_option maxRecDepth 100000 in
set_option maxHeartbeats 400000 in
theorem upTo_any (b B : Nat) (T : Nat → Prop) (s : Hs) (n : Int) (w : World) (h : HoldAt w b B T s) (h0 : 0 ≤ n) (h1 : n ≤ 255) : Calls Tryz.prog 146 #[.pointer (some ⟨b, 0, none⟩), .int .u8 n] w fun e w' => e = .returned (.int .i64 (s.upTo n)) ∧ w' = w := by
  have hf := h.fine.first
  obtain ⟨sv, nv, -, h⟩ := h
  obtain ⟨⟨c0, c1, c2, c3, c4, c5, c6⟩, -⟩ := hold_cells h.cells
  clear h
  have hU : ((s.upTo n : Nat) : Int) = (n - ((s.first : Int) - 1) % 128) % 128 := by unfold Hs.upTo; omega
  rw [hU]
  clear hU
  generalize s.first = f at *
  have hr : 0 ≤ ((f : Int) - 1) % 128 ∧ ((f : Int) - 1) % 128 < 128 := by omega
  have hpr := Ring.prev_any (f : Int) (by omega) (by omega) w
  generalize ((f : Int) - 1) % 128 = r at *
  go_enter Tryz.func146, Tryz.ntmps146
  go_wp2_with (first | (go_at_call 148; refine hpr.mono ?_; rintro e w1 ⟨rfl, hw1⟩; obtain rfl := hw1.symm; clear hw1) | (go_at_call 154; refine (Ring.gap_any r n (by omega) (by omega) (by omega) (by omega) _).mono ?_; rintro e w1 ⟨rfl, hw1⟩; obtain rfl := hw1.symm; clear hw1))
  go_ret
  exact ⟨rfl, rfl⟩

set_option maxRecDepth 100000 in
set_option maxHeartbeats 400000 in
theorem knows_any (b B : Nat) (T : Nat → Prop) (s : Hs) (n : Int) (w : World) (h : HoldAt w b B T s) (h0 : 0 ≤ n) (h1 : n ≤ 255) : Calls Tryz.prog 145 #[.pointer (some ⟨b, 0, none⟩), .int .u8 n] w fun e w' => e = .returned (.bool (s.knows n)) ∧ w' = w := by
  have hf := h.fine.first
  have hwn := h.fine.win
  have hla := last_any b B T s w h
  obtain ⟨sv, nv, -, h⟩ := h
  obtain ⟨⟨c0, c1, c2, c3, c4, c5, c6⟩, -⟩ := hold_cells h.cells
  clear h
  by_cases hn : n < 128
  · have hK : s.knows n = decide ((n - ((s.first : Int) - 1) % 128) % 128 ≤ (s.last - ((s.first : Int) - 1) % 128) % 128) := by
      unfold Hs.knows Hs.last
      rw [Bool.eq_iff_iff, decide_eq_true_iff, decide_eq_true_iff]
      omega
    rw [hK]
    clear hK
    have hl : 0 ≤ s.last ∧ s.last < 128 := by unfold Hs.last; omega
    generalize s.last = l at *
    generalize s.first = f at *
    have hr : 0 ≤ ((f : Int) - 1) % 128 ∧ ((f : Int) - 1) % 128 < 128 := by omega
    have hpr := Ring.prev_any (f : Int) (by omega) (by omega) w
    generalize ((f : Int) - 1) % 128 = r at *
    go_enter Tryz.func145, Tryz.ntmps145
    go_wp2_with (first | (go_at_call 148; refine hpr.mono ?_; rintro e w1 ⟨rfl, hw1⟩; obtain rfl := hw1.symm; clear hw1) | (go_at_call 140; refine hla.mono ?_; rintro e w1 ⟨rfl, hw1⟩; obtain rfl := hw1.symm; clear hw1) | (go_at_call 153; refine (Ring.within_any n r l (by omega) (by omega) (by omega) (by omega) (by omega) (by omega) _).mono ?_; rintro e w1 ⟨rfl, hw1⟩; obtain rfl := hw1.symm; clear hw1))
    go_ret
    exact ⟨rfl, rfl⟩
  · have hK : s.knows n = false := by
      unfold Hs.knows
      rw [decide_eq_false_iff_not]
      omega
    rw [hK]
    clear hK hla
    have hd : decide (n < 128) = false := decide_eq_false hn
    go_enter Tryz.func145, Tryz.ntmps145
    go_wp2
    go_ret
    exact ⟨rfl, rfl⟩

theorem fine_new (m o : Int) (hm : m ≤ 1048576) (ho : o ≤ 1099511627776) : Hs.Fine ⟨m, o, 0, [], []⟩ := ⟨hm, ho, by simp, by simp, .inl ⟨rfl, rfl⟩, .inl ⟨rfl, rfl⟩⟩

theorem new_in (w : World) (m o : Int) (B : Nat) (hm : m ≤ 1048576) (ho : o ≤ 1099511627776) : HoldAt (w.alloc (.cells #[.int .i64 m, .int .i64 o, .int .u8 0, .slice none 0 0, .int .i64 0, .slice none 0 0, .int .i64 0] 99)) w.heap.size B (own w.heap.size (.slice none 0 0) (.slice none 0 0)) ⟨m, o, 0, [], []⟩ :=
  ⟨_, _, rfl, heap_alloc_new w _, ⟨[], RowAt.nil _, trivial⟩, ⟨[], RowAt.nil _, trivial⟩, fun g h => by simp [Value.ownBlock] at h, fun g h => by simp [Value.ownBlock] at h, fun g h => by simp [Value.ownBlock] at h, fine_new m o hm ho⟩

set_option maxRecDepth 100000 in
set_option maxHeartbeats 400000 in
theorem new_any (m o : Int) (B : Nat) (w : World) (hm : m ≤ 1048576) (ho : o ≤ 1099511627776) : Calls Tryz.prog 97 #[.int .i64 m, .int .i64 o] w fun e w' => e = .returned (.pointer (some ⟨w.heap.size, 0, none⟩)) ∧ (∃ T, HoldAt w' w.heap.size B T ⟨m, o, 0, [], []⟩ ∧ ∀ g, T g → g = w.heap.size) ∧ Below w.heap.size w w' := by
  have hh := new_in w m o B hm ho
  have hB := (Below.refl w.heap.size w).alloc (Nat.le_refl _) (.cells #[.int .i64 m, .int .i64 o, .int .u8 0, .slice none 0 0, .int .i64 0, .slice none 0 0, .int .i64 0] 99)
  go_enter Tryz.func97, Tryz.ntmps97
  go_wp2
  go_ret
  refine ⟨rfl, ⟨_, hh, fun g hg => ?_⟩, hB⟩
  rcases hg with e | e | e
  · exact e
  · simp [Value.ownBlock] at e
  · simp [Value.ownBlock] at e
end Go.Proofs.YtldjglmelbkngaaGreat.Tape
