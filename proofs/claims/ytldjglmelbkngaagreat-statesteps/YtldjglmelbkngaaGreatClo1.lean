/- Laws on a State, their states in closed form: waits, unfit, takes, fails; no walk. -/
import Derived.Test.YtldjglmelbkngaaGreatState19
namespace Go.Proofs.YtldjglmelbkngaaGreat.Tape
open Go.ChangeShapes Go.WideShapes Go.ChangeAt Go.RowKit
set_option linter.unusedVariables false

/-! ### StateWaits -/
/-- After so many messages, each sent. -/
def wS (c : Bool) : Nat → St
  | 0 => svC c
  | i + 1 => ((wS c i).ord 5 [(i : Int), 2, 3]).next
/-- One timer runs. -/
def xs7 (z : Int) : List Int := [0, 0, 0, 0, 0, 0, 0, z]

theorem wS_put (c : Bool) (i : Nat) (h : i < 5) : (wS c i).ordE 5 [(i : Int), 2, 3] = 0 := by
  obtain rfl | rfl | rfl | rfl | rfl : i = 0 ∨ i = 1 ∨ i = 2 ∨ i = 3 ∨ i = 4 := by omega
  all_goals (cases c <;> (show _ = _; kernel_rfl))
theorem wS_room (c : Bool) (i : Nat) (h : i ≤ 5) : Room 900 (wS c i) := by
  obtain rfl | rfl | rfl | rfl | rfl | rfl : i = 0 ∨ i = 1 ∨ i = 2 ∨ i = 3 ∨ i = 4 ∨ i = 5 := by omega
  all_goals (refine room_of ?_; cases c <;> (show _ = _; kernel_rfl))
theorem wS_xs (c : Bool) (i : Nat) (h : i < 5) : (wS c (i + 1)).A.xs = xs7 25 ∧ (wS c (i + 1)).J.xs = xs7 25 := by
  obtain rfl | rfl | rfl | rfl | rfl : i = 0 ∨ i = 1 ∨ i = 2 ∨ i = 3 ∨ i = 4 := by omega
  all_goals (cases c <;> (constructor <;> (show _ = _; kernel_rfl)))
theorem xs7_sb (z : Int) (n : Nat) (h : (n : Int) < z) : (xs7 z).map (sb n) = xs7 (z - n) := by
  simp [xs7, sb, show z ≠ 0 by omega]
theorem wS_tks (c : Bool) (i : Nat) (h : i < 5) (n : Nat) (hn : n < 25) : (wS c (i + 1)).tks n = (wS c (i + 1)).setC (xs7 (25 - n)) := by
  obtain ⟨h1, h2⟩ := wS_xs c i h
  rw [tks_calm _ (h2.trans h1.symm) n, h1, xs7_sb _ _ (by omega)]
  rw [h1]
  intro v hv
  simp only [xs7, List.mem_cons, List.not_mem_nil, or_false] at hv
  omega
theorem wS_out (c : Bool) (i : Nat) (h : i < 5) : ((wS c (i + 1)).tks 25).s = 0 ∧ ((wS c (i + 1)).tks 25).told = [tdC 2 2 nilV] ∧ Room 900 ((wS c (i + 1)).tks 25) := by
  rw [show (wS c (i + 1)).tks 25 = ((wS c (i + 1)).tks 24).tick from rfl, wS_tks c i h 24 (by omega)]
  obtain rfl | rfl | rfl | rfl | rfl : i = 0 ∨ i = 1 ∨ i = 2 ∨ i = 3 ∨ i = 4 := by omega
  all_goals (cases c <;> (refine ⟨?_, ?_, room_of ?_⟩ <;> (show _ = _; kernel_rfl)))
/-- All are answered. -/
def wA (c : Bool) (i : Nat) (z : Int) (q : Value) : St := ((wS c (i + 1)).setC (xs7 z)).hear i 127 0 0 true true q
theorem wA_all (c : Bool) (i : Nat) (h : i < 5) (z : Int) (q : Value) : (wA c i z q).s = 4 ∧ (wA c i z q).hs.sent = [] ∧ (wA c i z q).A.xs = xs7 0 ∧ (wA c i z q).J.xs = xs7 0 ∧ Room 900 (wA c i z q) := by
  obtain rfl | rfl | rfl | rfl | rfl : i = 0 ∨ i = 1 ∨ i = 2 ∨ i = 3 ∨ i = 4 := by omega
  all_goals (cases c <;> (refine ⟨?_, ?_, ?_, ?_, room_of ?_⟩ <;> (show _ = _; kernel_rfl)))
/-- Nothing runs. -/
theorem tks_still (x : St) (z : List Int) (hz : ∀ v ∈ z, v = 0) (h1 : x.A.xs = z) (h2 : x.J.xs = z) (n : Nat) : x.tks n = x := by
  rw [tks_calm x (h2.trans h1.symm) n (fun v hv => .inl (hz v (h1 ▸ hv))), h1]
  have : z.map (sb n) = z := by
    conv => rhs; rw [← List.map_id z]
    exact List.map_congr_left fun v hv => by rw [hz v hv]; rfl
  rw [this]
  obtain ⟨s, ⟨⟩, ⟨⟩, wt, hs, own, their, held, lk, told, fl⟩ := x
  simp only at h1 h2
  subst h1 h2
  rfl

/-! ### StateUnfit -/
theorem an_odd (x : Wt) (s : Hs) (b b' : Int) (ub : Bool) (h : s.knows b = false) (h' : s.knows b' = false) : x.an s b ub = x.an s b' ub := by
  cases x <;> simp only [Wt.an, h, h', Bool.false_eq_true, if_false]
theorem hear_odd (x : St) (b b' f k st : Int) (ub uf : Bool) (q : Value) (h : (x.count false).mt.wt.an (x.count false).mt.hs b ub = (x.count false).mt.wt.an (x.count false).mt.hs b' ub) : x.hear b f k st ub uf q = x.hear b' f k st ub uf q := by
  unfold St.hear
  generalize x.count false = y at *
  have h1 : y.mt.hearOk b ub = y.mt.hearOk b' ub := by unfold St.hearOk; rw [h]
  have h2 : y.mt.ans b ub = y.mt.ans b' ub := by unfold St.ans; rw [h]
  have h3 : y.mt.ans2 b ub = y.mt.ans2 b' ub := by unfold St.ans2; rw [h, h2]
  have h4 : y.mt.hearAns b ub = y.mt.hearAns b' ub := by unfold St.hearAns; rw [h, h1, h2, h3]
  unfold St.hear2 St.heardOther
  rw [h1, h4]
/-- What it has heard of answers: the last two, were they odd. -/
def uS (c b0 b1 : Bool) : St := { svC c with wt := if c then .inr { cs0 8 300 with b0 := b0, b1 := b1 } else .inl { bs0 with b0 := b0, b1 := b1 } }
theorem uS_fill (c b0 b1 : Bool) (q : Value) : (uS c b0 b1).hear 127 127 0 0 true true q = uS c false b0 := by
  cases c <;> (show _ = _; kernel_rfl)
theorem uS_odd (c : Bool) (b : Int) (hb : 0 ≤ b ∧ b < 127) (q : Value) : (uS c false false).hear b 127 0 0 true true q = uS c true false := by
  have hk : (Hs.mk 16 600 0 [] []).knows b = false := by
    unfold Hs.knows
    rw [decide_eq_false_iff_not]
    simp only [List.length_nil]
    omega
  rw [hear_odd _ b 0]
  · cases c <;> (show _ = _; kernel_rfl)
  · exact an_odd _ _ _ _ _ (by cases c <;> exact hk) (by cases c <;> (show _ = _; kernel_rfl))
theorem uS_out (c b0 b1 : Bool) (b : Int) (hb : 0 ≤ b ∧ b < 127) (h : (b0 || b1) = true) (q : Value) : ((uS c b0 b1).hear b 127 0 0 true true q).s = 0 ∧ ((uS c b0 b1).hear b 127 0 0 true true q).told = [tdC 2 4 nilV] := by
  have hk : (Hs.mk 16 600 0 [] []).knows b = false := by
    unfold Hs.knows
    rw [decide_eq_false_iff_not]
    simp only [List.length_nil]
    omega
  rw [hear_odd _ b 0]
  · cases c <;> cases b0 <;> cases b1
    all_goals first
      | exact absurd h (by decide)
      | exact ⟨by show _ = _; kernel_rfl, by show _ = _; kernel_rfl⟩
  · exact an_odd _ _ _ _ _ (by cases c <;> exact hk) (by cases c <;> (show _ = _; kernel_rfl))

theorem uS_room (c b0 b1 : Bool) : Room 900 (uS c b0 b1) := room_of (by cases c <;> (show _ = _; kernel_rfl))
theorem uS_s (c b0 b1 : Bool) : (uS c b0 b1).s = 4 := by cases c <;> rfl
/-- So many right answers behind an odd one. -/
def uJ (c : Bool) (j : Nat) : St := uS c (decide (j = 0)) (decide (j = 1))
theorem uJ_fill (c : Bool) (j : Nat) (q : Value) : (uJ c j).hear 127 127 0 0 true true q = uJ c (j + 1) := by
  unfold uJ
  rw [uS_fill]
  congr 1
  simp

/-! ### StateTakes -/
/-- So many messages were taken. -/
def tS (c : Bool) (n : Nat) : St := { svC c with wt := if c then .inr { cs0 8 300 with last := ((n : Int) + 127) % 128 } else .inl { bs0 with last := ((n : Int) + 127) % 128 } }
theorem tS_hear (c : Bool) (n : Nat) (f : Int) (q : Value) : (tS c n).hear 127 f 2 0 true true q = (tS c n).take3 f 2 true q := by
  cases c <;> (show _ = _; kernel_rfl)
theorem tkb_yes (t : Bs) (f : Int) (hb : t.bib = true) (h : f = (t.last + 1) % 128) : Wt.tk (.inl t) f 2 true = (.inl { t with i0 := false, i1 := t.i0, last := f, ask := false }, true, 0) := by
  simp only [Wt.tk, if_pos hb.symm, true_and, if_pos h]
theorem tkb_no (t : Bs) (hb : t.bib = true) (h : ¬ t.last = (t.last + 1) % 128) : Wt.tk (.inl t) t.last 2 true = (.inl { t with i0 := false, i1 := t.i0, ask := false }, false, 0) := by
  simp only [Wt.tk, if_pos hb.symm, true_and, if_neg h, if_true]
theorem tkc_yes (t : Cs) (f : Int) (h : f = (t.last + 1) % 128) : Wt.tk (.inr t) f 2 true = (.inr { t with last := f }, true, 0) := by
  simp only [Wt.tk, true_and, if_pos h]
theorem tkc_no (t : Cs) (h : ¬ t.last = (t.last + 1) % 128) : Wt.tk (.inr t) t.last 2 true = (.inr t, false, 0) := by
  simp only [Wt.tk, true_and, if_neg h]
theorem tS_take (c : Bool) (n : Nat) (hn : n < 100) (q : Value) : (tS c n).take3 n 2 true q = { tS c (n + 1) with told := [tdC 3 0 q] } := by
  have hf : (n : Int) = (((n : Int) + 127) % 128 + 1) % 128 := by omega
  have hl : (((n + 1 : Nat) : Int) + 127) % 128 = n := by omega
  cases c
  · have e : (tS false n).wt.tk n 2 true = (.inl { bs0 with last := n }, true, 0) := tkb_yes _ _ rfl hf
    unfold St.take3 St.take2 St.take
    rw [e]
    show ({ svC false with wt := .inl { bs0 with last := (n : Int) }, told := [tdC 3 0 q] } : St) = { svC false with wt := .inl { bs0 with last := (((n + 1 : Nat) : Int) + 127) % 128 }, told := [tdC 3 0 q] }
    rw [hl]
  · have e : (tS true n).wt.tk n 2 true = (.inr { cs0 8 300 with last := n }, true, 0) := tkc_yes _ _ hf
    unfold St.take3 St.take2 St.take
    rw [e]
    show ({ svC true with wt := .inr { cs0 8 300 with last := (n : Int) }, told := [tdC 3 0 q] } : St) = { svC true with wt := .inr { cs0 8 300 with last := (((n + 1 : Nat) : Int) + 127) % 128 }, told := [tdC 3 0 q] }
    rw [hl]
theorem tS_not (c : Bool) (n : Nat) (q : Value) : (tS c n).take3 (((n : Int) + 127) % 128) 2 true q = tS c n := by
  have hf : ¬ ((n : Int) + 127) % 128 = (((n : Int) + 127) % 128 + 1) % 128 := by omega
  cases c
  · have e : (tS false n).wt.tk (((n : Int) + 127) % 128) 2 true = (.inl { bs0 with last := ((n : Int) + 127) % 128 }, false, 0) := tkb_no _ rfl hf
    unfold St.take3 St.take2 St.take
    rw [e]
    rfl
  · have e : (tS true n).wt.tk (((n : Int) + 127) % 128) 2 true = (.inr { cs0 8 300 with last := ((n : Int) + 127) % 128 }, false, 0) := tkc_no _ hf
    unfold St.take3 St.take2 St.take
    rw [e]
    rfl
/-- Its message is handed on. -/
theorem tS_gets (c : Bool) (n : Nat) (hn : n < 100) : (tS c n).hgets 127 n 2 true true = true := by
  have hf : (n : Int) = (((n : Int) + 127) % 128 + 1) % 128 := by omega
  cases c
  · show ((tS false n).wt.tk n 2 true).2.1 = true
    rw [show (tS false n).wt.tk n 2 true = (.inl { bs0 with last := (n : Int) }, true, 0) from tkb_yes _ _ rfl hf]
  · show ((tS true n).wt.tk n 2 true).2.1 = true
    rw [show (tS true n).wt.tk n 2 true = (.inr { cs0 8 300 with last := (n : Int) }, true, 0) from tkc_yes _ _ hf]

/-! ### StateFails -/
/-- After so many messages, each sent. -/
def fS (c : Bool) : Nat → St
  | 0 => svC c
  | i + 1 => ((fS c i).ord 5 [(i : Int), 1, 2]).next
theorem fS_room (c : Bool) (i : Nat) (h : i ≤ 5) : Room 900 (fS c i) := by
  obtain rfl | rfl | rfl | rfl | rfl | rfl : i = 0 ∨ i = 1 ∨ i = 2 ∨ i = 3 ∨ i = 4 ∨ i = 5 := by omega
  all_goals (refine room_of ?_; cases c <;> (show _ = _; kernel_rfl))
/-- The other side's processor went out, and was told of. -/
def fH (c : Bool) (i : Nat) (hal : Bool) (q : Value) : St := if hal = true then ((fS c i).hear 127 127 1 4 true true q).took else fS c i
def fR (c : Bool) (i : Nat) (hal : Bool) (s : Int) (q q2 : Value) : St := (fH c i hal q).hear 127 127 1 s true true q2
theorem fH_room (c : Bool) (i : Nat) (h : i ≤ 5) (hal : Bool) (q : Value) : Room 900 (fH c i hal q) := by
  obtain rfl | rfl | rfl | rfl | rfl | rfl : i = 0 ∨ i = 1 ∨ i = 2 ∨ i = 3 ∨ i = 4 ∨ i = 5 := by omega
  all_goals (refine room_of ?_; cases c <;> cases hal <;> (show _ = _; kernel_rfl))
theorem fR_all (c : Bool) (i : Nat) (h : i ≤ 5) (hal : Bool) (s : Int) (hs : 0 ≤ s ∧ s < 4) (q q2 : Value) :
    (fR c i hal s q q2).s = 0 ∧ (fR c i hal s q q2).told = [tdC 2 (if s = 3 then 8 else 9) nilV] ∧ ((fR c i hal s q q2).hs.sent.length : Int) + ((fR c i hal s q q2).hs.next.length : Int) = i ∧ (fR c i hal s q q2).took.ns = 3 ∧ lft (fR c i hal s q q2).took.next.A.xs 7 = 0 ∧ (fR c i hal s q q2).took.next.s = 0 := by
  obtain rfl | rfl | rfl | rfl | rfl | rfl : i = 0 ∨ i = 1 ∨ i = 2 ∨ i = 3 ∨ i = 4 ∨ i = 5 := by omega
  all_goals
    obtain rfl | rfl | rfl | rfl : s = 0 ∨ s = 1 ∨ s = 2 ∨ s = 3 := by omega
    all_goals (cases c <;> cases hal <;> (refine ⟨?_, ?_, ?_, ?_, ?_, ?_⟩ <;> (show _ = _; kernel_rfl)))
end Go.Proofs.YtldjglmelbkngaaGreat.Tape
