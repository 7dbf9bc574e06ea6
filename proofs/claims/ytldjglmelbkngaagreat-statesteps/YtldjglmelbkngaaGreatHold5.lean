/- The contract of a Hold's Put. -/
import Derived.Test.YtldjglmelbkngaaGreatHold4
import Derived.Deep.RegionHeld
namespace Go.Proofs.YtldjglmelbkngaaGreat.Tape
open Go.ChangeShapes Go.WideShapes Go.ChangeAt Go.RowKit
set_option linter.unusedVariables false

theorem HoldIn.below {w w' : World} {b B : Nat} {sv nv : Value} {s : Hs} (h : HoldIn w b B sv nv s) (hb : Below w.heap.size w w') : HoldIn w' b B sv nv s := h.keep fun k _ hk => hb.block k hk

theorem owns_some {w : World} {base : Nat} {e : TypeId} {v : Value} {n : Nat} {vs : List Value} (h : w.ownsRow base e 1 v n vs) (hn : 0 < n) : ∃ g cap, v = .slice (some ⟨g, 0, none⟩) n cap := by
  rcases h.2 with ⟨_, h0⟩ | ⟨g, cap, cur, rfl, _⟩
  · omega
  · exact ⟨g, cap, rfl⟩

theorem below_le {B B' : Nat} {w w' : World} (h : Below B w w') (hB : B' ≤ B) : Below B' w w' := ⟨h.os, h.tape, h.output, h.size, fun k hk => h.block k (by omega)⟩

/-- Put's error. -/
def Hs.putE (s : Hs) (xs : List Int) : Int := if xs.length < 3 then 5 else if 273 < xs.length then 6 else if s.most ≤ s.sent.length + s.next.length ∨ s.oct < sz s.sent + sz s.next + xs.length then 3 else 0
/-- .. and what it leaves. -/
def Hs.put (s : Hs) (xs : List Int) : Hs := if s.putE xs = 0 then { s with next := s.next ++ [xs] } else s

set_option maxRecDepth 100000 in
set_option maxHeartbeats 1000000 in
theorem put_ok (b B : Nat) (T : Nat → Prop) (s : Hs) (ao : Option Addr) (n cap : Nat) (xs : List Int) (w : World) (h : HoldAt w b B T s) (hn : xs.length = n) (hr : Reads w ao (xs.map (.int .u8))) (hx : ∀ x ∈ xs, 0 ≤ x ∧ x ≤ 255) (hB : B ≤ w.heap.size)
    (h3 : 3 ≤ n) (h273 : n ≤ 273) (hm : (s.sent.length + s.next.length : Int) < s.most) (ho : (sz s.sent + sz s.next + n : Int) ≤ s.oct) :
    Calls Tryz.prog 87 #[.pointer (some ⟨b, 0, none⟩), .slice ao n cap] w fun e w' => e = .returned (.int .i64 0) ∧ ∃ T', HoldAt w' b B T' { s with next := s.next ++ [xs] } ∧ Foot T T' w w' := by
  obtain ⟨f1, f2, f3, f4, f5, f6⟩ := h.fine
  obtain ⟨n1, n2, n3, n4⟩ := h.fine.nums
  have hfine : Hs.Fine { s with next := s.next ++ [xs] } := ⟨f1, f2, f3, f4, .inr (by simp only [List.length_append, List.length_singleton]; omega), .inr (by simp only [sz_append, sz]; omega)⟩
  have hse := fun q => sent_any b B T s (w.drewN q) (h.drewN q)
  have hne := fun q => next_any b B T s (w.drewN q) (h.drewN q)
  have hh := h
  obtain ⟨sv, nv, rfl, hi⟩ := h
  obtain ⟨⟨c0, c1, c2, c3, c4, c5, c6⟩, hz⟩ := hold_cells hi.cells
  obtain ⟨g, off, rfl⟩ := reads_some hr (by simp; omega)
  have HF : Hid (Hs.Fine { s with next := s.next ++ [xs] }) := hfine
  have HN : Hid (xs.length = n) := hn
  clear hfine c2 c3 c4 c5 c6 hz f5 f6 hn
  have e1 : ((s.sent.length : Int) + s.next.length ≥ s.most) = False := eq_false (by omega)
  have e2 : (((sz s.sent + sz s.next : Nat) : Int) + n > s.oct) = False := eq_false (by omega)
  go_enter Tryz.func87, Tryz.ntmps87
  go_wp2_with fail
  go_quiet (first | (go_at_call 29; exact Calls.quiet_of_same (hse _)) | (go_at_call 32; exact Calls.quiet_of_same (hne _)))
  go_wp2_with fail
  obtain ⟨W, hW⟩ : ∃ W, W = w.drewN nq := ⟨_, rfl⟩
  have hhW : HoldAt W b B (own b sv nv) s := by rw [hW]; exact hh.drewN nq
  have hrW : Reads W (some ⟨g, off, none⟩) (xs.map (.int .u8)) := by rw [hW]; exact hr.drewN nq
  have hBW : Below w.heap.size w W := by rw [hW]; exact below_drewN (Below.refl _ _) nq
  have c1W : W.cell? ⟨b, 1, none⟩ = some (.int .i64 s.oct) := by rw [hW]; exact c1
  rw [← hW]
  clear hW hh hr c0 c1 hse hne
  have hoc := fun q => octets_any b B _ s (W.drewN q) (hhW.drewN q)
  go_quiet ((go_at_call 33; exact Calls.quiet_of (hoc _)))
  go_wp2_with fail
  obtain ⟨W2, hW2⟩ : ∃ W2, W2 = W.drewN nq := ⟨_, rfl⟩
  have hi2 : HoldAt W2 b B (own b sv nv) s := by rw [hW2]; exact hhW.drewN nq
  have hr2 : Reads W2 (some ⟨g, off, none⟩) (xs.map (.int .u8)) := by rw [hW2]; exact hrW.drewN nq
  have hB2 : Below w.heap.size w W2 := by rw [hW2]; exact below_drewN hBW nq
  rw [← hW2]
  clear hW2 hhW hrW hBW c1W hoc hi
  obtain ⟨sv', nv', hT, hi⟩ := hi2
  have HT : Hid (own b sv nv = own b sv' nv') := hT
  obtain ⟨un, hrow, heach⟩ := hi.next
  have hdrew : Below W2.heap.size W2 W2.drew := (Below.refl _ _).drew
  have hun := heach.len
  have hul : un.length ≤ 2000000 := by omega
  have hwb := hi.away.2
  have HI : Hid (HoldIn W2 b B sv' nv' s ∧ RowAt W2 nv' un ∧ Each (HMsg W2 B) un s.next ∧ un.length ≤ 2000000 ∧ nv'.ownBlock ≠ some b) := ⟨hi, hrow, heach, hul, hwb⟩
  have HX : Hid (∀ x ∈ xs, 0 ≤ x ∧ x ≤ 255) := hx
  have HD : Hid (Below W2.heap.size W2 W2.drew) := hdrew
  have HBw : Hid (Below w.heap.size w W2) := hB2
  clear hi hrow heach hun hul hwb hdrew hx hB2
  go_region_with (first
    | (go_at_call 109; refine (clone_any g off n cap xs _ HN.out (by omega) (hr2.below (Nat.le_refl _) HD.out)).mono ?_; rintro e w3 ⟨v3, rfl, hown3, hB3⟩; obtain ⟨g3, cap3, rfl⟩ := owns_some hown3 (by omega); have HB3 : Hid (Below W2.heap.size W2 w3) := HD.out.trans hB3; have HO3 : Hid (w3.ownsRow W2.heap.size 5 1 (.slice (some ⟨g3, 0, none⟩) n cap3) n (xs.map (.int .u8))) := hown3; clear hown3 hB3)
    | (go_at_call 108; refine (add_any b 5 nv' (sz s.next) un (some ⟨g3, 0, none⟩) n cap3 w3 (hold_cells (HI.out.1.below HB3.out).cells).1.2.2.2.2.2.1 ((hold_cells (HI.out.1.below HB3.out).cells).2 5) (hold_cells (HI.out.1.below HB3.out).cells).1.2.2.2.2.2.2 ((hold_cells (HI.out.1.below HB3.out).cells).2 6) (HI.out.2.1.at_ (fun g hg => HB3.out.block g (HI.out.2.1.lt g hg))) HI.out.2.2.2.2 (by omega) (by omega) (by omega) HI.out.2.2.2.1).mono ?_; rintro e w4 ⟨rfl, v5, w5, hr5, hg5, hm5, hw4⟩))
  go_wp2
  go_ret
  have hi3 := HI.out.1.below HB3.out
  have hsz := HBw.out.size
  have hsz3 := HB3.out.size
  obtain rfl := HN.out
  obtain ⟨hA, hF⟩ := add_next hi3 (HI.out.2.1.at_ (fun g hg => HB3.out.block g (HI.out.2.1.lt g hg))) (HI.out.2.2.1.mono (fun u x hm => hm.at_ (fun g cur _ hg => HB3.out.block g (heap_lt hg)))) (⟨owns_lower HO3.out (by omega), h3, h273, HX.out⟩) hr5 hg5 hm5 (by omega) HF.out
  refine ⟨rfl, _, ⟨_, _, rfl, hA⟩, Foot.trans (Foot.of_below (HBw.out.trans (below_le HB3.out hsz))) ?_⟩
  rw [HT.out]
  exact hF

set_option maxRecDepth 100000 in
set_option maxHeartbeats 1000000 in
theorem put_bad (b B : Nat) (T : Nat → Prop) (s : Hs) (ao : Option Addr) (n cap : Nat) (w : World) (h : HoldAt w b B T s) (hm : n < 3 ∨ 273 < n) (hn : n ≤ 1000000) :
    Calls Tryz.prog 87 #[.pointer (some ⟨b, 0, none⟩), .slice ao n cap] w fun e w' => e = .returned (.int .i64 (if n < 3 then 5 else 6)) ∧ w' = w := by
  by_cases h3 : n < 3
  · rw [if_pos h3]
    go_enter Tryz.func87, Tryz.ntmps87
    go_wp2
    go_ret
    exact ⟨rfl, rfl⟩
  · rw [if_neg h3]
    have h6 : 273 < n := by omega
    clear hm
    go_enter Tryz.func87, Tryz.ntmps87
    go_wp2
    go_ret
    exact ⟨rfl, rfl⟩

set_option maxRecDepth 100000 in
set_option maxHeartbeats 1000000 in
theorem put_full (b B : Nat) (T : Nat → Prop) (s : Hs) (ao : Option Addr) (n cap : Nat) (w : World) (h : HoldAt w b B T s) 
    (h3 : 3 ≤ n) (h273 : n ≤ 273) (hm : s.most ≤ s.sent.length + s.next.length ∨ s.oct < sz s.sent + sz s.next + n) :
    Calls Tryz.prog 87 #[.pointer (some ⟨b, 0, none⟩), .slice ao n cap] w fun e w' => e = .returned (.int .i64 3) ∧ ∃ q, w' = w.drewN q := by
  obtain ⟨f1, f2, f3, f4, f5, f6⟩ := h.fine
  obtain ⟨n1, n2, n3, n4⟩ := h.fine.nums
  have hse := fun q => sent_any b B T s (w.drewN q) (h.drewN q)
  have hne := fun q => next_any b B T s (w.drewN q) (h.drewN q)
  have hh := h
  obtain ⟨sv, nv, rfl, hi⟩ := h
  obtain ⟨⟨c0, c1, c2, c3, c4, c5, c6⟩, hz⟩ := hold_cells hi.cells
  clear c2 c3 c4 c5 c6 hz f5 f6 hi
  by_cases h1 : s.most ≤ s.sent.length + s.next.length
  · clear hm
    have e1 : ((s.sent.length : Int) + s.next.length ≥ s.most) = True := eq_true h1
    go_enter Tryz.func87, Tryz.ntmps87
    go_wp2_with fail
    go_quiet (first | (go_at_call 29; exact Calls.quiet_of_same (hse _)) | (go_at_call 32; exact Calls.quiet_of_same (hne _)))
    go_wp2
    go_ret
    exact ⟨rfl, _, rfl⟩
  · have h2 : s.oct < sz s.sent + sz s.next + n := by omega
    clear hm
    have e1 : ((s.sent.length : Int) + s.next.length ≥ s.most) = False := eq_false (by omega)
    go_enter Tryz.func87, Tryz.ntmps87
    go_wp2_with fail
    go_quiet (first | (go_at_call 29; exact Calls.quiet_of_same (hse _)) | (go_at_call 32; exact Calls.quiet_of_same (hne _)))
    go_wp2_with fail
    obtain ⟨W, hW⟩ : ∃ W, W = w.drewN nq := ⟨_, rfl⟩
    have hhW : HoldAt W b B (own b sv nv) s := by rw [hW]; exact hh.drewN nq
    have c1W : W.cell? ⟨b, 1, none⟩ = some (.int .i64 s.oct) := by rw [hW]; exact c1
    have HW : Hid (W = w.drewN nq) := hW
    rw [← hW]
    clear hW hh c0 c1 hse hne
    have hoc := fun q => octets_any b B _ s (W.drewN q) (hhW.drewN q)
    go_quiet ((go_at_call 33; exact Calls.quiet_of (hoc _)))
    go_wp2
    go_ret
    refine ⟨rfl, ?_⟩
    rw [HW.out]
    exact ⟨_, World.drewN_drewN _ _ _⟩

theorem put_any (b B : Nat) (T : Nat → Prop) (s : Hs) (ao : Option Addr) (n cap : Nat) (xs : List Int) (w : World) (h : HoldAt w b B T s) (hn : xs.length = n) (hl : n ≤ 1000000) (hr : Reads w ao (xs.map (.int .u8))) (hx : ∀ x ∈ xs, 0 ≤ x ∧ x ≤ 255) (hB : B ≤ w.heap.size) :
    Calls Tryz.prog 87 #[.pointer (some ⟨b, 0, none⟩), .slice ao n cap] w fun e w' => e = .returned (.int .i64 (s.putE xs)) ∧ ∃ T', HoldAt w' b B T' (s.put xs) ∧ Foot T T' w w' := by
  subst hn
  by_cases h1 : xs.length < 3 ∨ 273 < xs.length
  · refine (put_bad b B T s ao _ cap w h h1 hl).mono ?_
    rintro e w' ⟨rfl, rfl⟩
    have e : s.putE xs = if xs.length < 3 then 5 else 6 := by
      unfold Hs.putE
      split
      · rfl
      · rw [if_pos (by omega)]
    have e2 : s.put xs = s := by
      unfold Hs.put
      rw [if_neg]
      rw [e]
      split <;> decide
    rw [e, e2]
    exact ⟨rfl, T, h, Foot.refl _ _⟩
  · by_cases h2 : s.most ≤ s.sent.length + s.next.length ∨ s.oct < sz s.sent + sz s.next + xs.length
    · refine (put_full b B T s ao _ cap w h (by omega) (by omega) h2).mono ?_
      rintro e w' ⟨rfl, q, rfl⟩
      have e : s.putE xs = 3 := by
        unfold Hs.putE
        rw [if_neg (by omega), if_neg (by omega), if_pos h2]
      have e2 : s.put xs = s := by
        unfold Hs.put
        rw [if_neg]
        rw [e]
        decide
      rw [e, e2]
      exact ⟨rfl, T, h.drewN q, Foot.of_below (below_drewN (Below.refl _ _) q)⟩
    · refine (put_ok b B T s ao _ cap xs w h rfl hr hx hB (by omega) (by omega) (by omega) (by omega)).mono ?_
      rintro e w' ⟨rfl, T', hA, hF⟩
      have e : s.putE xs = 0 := by
        unfold Hs.putE
        rw [if_neg (by omega), if_neg (by omega), if_neg h2]
      have e2 : s.put xs = { s with next := s.next ++ [xs] } := by
        unfold Hs.put
        rw [if_pos e]
      rw [e, e2]
      exact ⟨rfl, T', hA, hF⟩
end Go.Proofs.YtldjglmelbkngaaGreat.Tape
