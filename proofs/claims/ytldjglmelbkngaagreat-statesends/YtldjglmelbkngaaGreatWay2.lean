/- A way's calls through the interface: which function each one is; the contracts of Hold, Fill, Next, Answer, Take of either method, by plain functions. -/
import Derived.Test.YtldjglmelbkngaaGreatWay1
namespace Go.Proofs.YtldjglmelbkngaaGreat.Tape
open Go.ChangeShapes Go.WideShapes Go.ChangeAt Go.RowKit
set_option linter.unusedVariables false

/-- A way's type. -/
def wT (c : Bool) : TypeId := if c then 106 else 108
theorem wayV_eq (c : Bool) (p : Nat) : wayV c p = .iface (wT c) (.pointer (some ⟨p, 0, none⟩)) := rfl

/-- Which function each call is. -/
def fHold (c : Bool) : Nat := if c then 132 else 159
def fFill (c : Bool) : Nat := if c then 131 else 158
def fNext (c : Bool) : Nat := if c then 133 else 160
def fAns (c : Bool) : Nat := if c then 130 else 157
def fTake (c : Bool) : Nat := if c then 135 else 162

theorem m_hold (c : Bool) (p : Nat) (W : World) : (method 267 (wT c) (.pointer (some ⟨p, 0, none⟩)) "Hold").run Tryz.prog W = .ok (fHold c, .pointer (some ⟨p, 0, none⟩)) W := by
  cases c <;> (show _ = _; kernel_rfl)
theorem m_fill (c : Bool) (p : Nat) (W : World) : (method 267 (wT c) (.pointer (some ⟨p, 0, none⟩)) "Fill").run Tryz.prog W = .ok (fFill c, .pointer (some ⟨p, 0, none⟩)) W := by
  cases c <;> (show _ = _; kernel_rfl)
theorem m_next (c : Bool) (p : Nat) (W : World) : (method 267 (wT c) (.pointer (some ⟨p, 0, none⟩)) "Next").run Tryz.prog W = .ok (fNext c, .pointer (some ⟨p, 0, none⟩)) W := by
  cases c <;> (show _ = _; kernel_rfl)
theorem m_ans (c : Bool) (p : Nat) (W : World) : (method 267 (wT c) (.pointer (some ⟨p, 0, none⟩)) "Answer").run Tryz.prog W = .ok (fAns c, .pointer (some ⟨p, 0, none⟩)) W := by
  cases c <;> (show _ = _; kernel_rfl)
theorem m_take (c : Bool) (p : Nat) (W : World) : (method 267 (wT c) (.pointer (some ⟨p, 0, none⟩)) "Take").run Tryz.prog W = .ok (fTake c, .pointer (some ⟨p, 0, none⟩)) W := by
  cases c <;> (show _ = _; kernel_rfl)
theorem c_hold (c : Bool) (a : Array Value) (W : World) : (callFunc (fHold c) a).run Tryz.prog W = .ok (.enter (fHold c) a) W := by
  cases c <;> (show _ = _; kernel_rfl)
theorem c_fill (c : Bool) (a : Array Value) (W : World) : (callFunc (fFill c) a).run Tryz.prog W = .ok (.enter (fFill c) a) W := by
  cases c <;> (show _ = _; kernel_rfl)
theorem c_next (c : Bool) (a : Array Value) (W : World) : (callFunc (fNext c) a).run Tryz.prog W = .ok (.enter (fNext c) a) W := by
  cases c <;> (show _ = _; kernel_rfl)
theorem c_ans (c : Bool) (a : Array Value) (W : World) : (callFunc (fAns c) a).run Tryz.prog W = .ok (.enter (fAns c) a) W := by
  cases c <;> (show _ = _; kernel_rfl)
theorem c_take (c : Bool) (a : Array Value) (W : World) : (callFunc (fTake c) a).run Tryz.prog W = .ok (.enter (fTake c) a) W := by
  cases c <;> (show _ = _; kernel_rfl)

/-- The last message's number that was taken; the indicators that are sent. -/
def Wt.last : Wt → Int
  | .inl t => t.last
  | .inr t => t.last
def Wt.bib : Wt → Bool
  | .inl t => t.bib
  | .inr _ => true
def Wt.fib : Wt → Bool
  | .inl t => t.fib
  | .inr _ => true

/-- What a Basic sends next: what it leaves, the number, the message. -/
def Bs.nx (t : Bs) (s : Hs) : (Bs × Hs) × Int × Option (List Int) :=
  if 0 ≤ t.again ∧ t.again < s.sent.length then ((t.to s.sent.length (t.again + 1), s), (s.first + t.again) % 128, s.sent[t.again.toNat]?)
  else if 127 ≤ s.sent.length then (({ t with again := -1 }, s), s.last, none)
  else match s.next with
    | [] => (({ t with again := -1 }, s), s.last, none)
    | x :: xs => (({ t with again := -1 }, { s with sent := s.sent ++ [x], next := xs }), (s.first + s.sent.length) % 128, some x)

theorem bnext_any (p hb B : Nat) (T0 : Nat → Prop) (t : Bs) (s : Hs) (w : World) (h : BasIn w p hb B T0 t s) (hBw : B ≤ w.heap.size) :
    Calls Tryz.prog 160 #[.pointer (some ⟨p, 0, none⟩)] w fun e w' => ∃ v T1, e = .returned (.agg (uC t.last (t.nx s).2.1 t.bib t.fib (kd (t.nx s).2.2) v)) ∧ InfoAt w' w.heap.size v (t.nx s).2.2 ∧ BasIn w' p hb B T1 (t.nx s).1.1 (t.nx s).1.2 ∧ Foot (fun g => g = p ∨ T0 g) (fun g => g = p ∨ T1 g) w w' := by
  by_cases h1 : 0 ≤ t.again ∧ t.again < s.sent.length
  · obtain ⟨k, hk⟩ : ∃ k : Nat, t.again = k := ⟨t.again.toNat, by omega⟩
    have hlt : k < s.sent.length := by omega
    have e0 : t.nx s = ((t.to s.sent.length (k + 1), s), ((s.first : Int) + (k : Nat)) % 128, some s.sent[k]) := by
      unfold Bs.nx
      rw [if_pos h1, hk, Int.toNat_natCast, List.getElem?_eq_getElem hlt]
    refine (next_again p hb B T0 t s k w h hk hlt hBw).mono ?_
    rintro e w' ⟨v, rfl, hm, hin, hF⟩
    rw [e0]
    exact ⟨v, T0, rfl, hm, hin, hF⟩
  · have ha : t.again < 0 ∨ s.sent.length ≤ t.again := by omega
    by_cases h2 : 127 ≤ s.sent.length
    · have e0 : t.nx s = (({ t with again := -1 }, s), s.last, none) := by
        unfold Bs.nx
        rw [if_neg h1, if_pos h2]
      refine (next_fill p hb B T0 t s w h ha (.inr h2)).mono ?_
      rintro e w' ⟨rfl, hin, hF⟩
      rw [e0]
      exact ⟨_, T0, rfl, rfl, hin, hF⟩
    · cases hs : s.next with
      | nil =>
        have e0 : t.nx s = (({ t with again := -1 }, s), s.last, none) := by
          unfold Bs.nx
          rw [if_neg h1, if_neg h2, hs]
        refine (next_fill p hb B T0 t s w h ha (.inl hs)).mono ?_
        rintro e w' ⟨rfl, hin, hF⟩
        rw [e0]
        exact ⟨_, T0, rfl, rfl, hin, hF⟩
      | cons x xs =>
        have e0 : t.nx s = (({ t with again := -1 }, { s with sent := s.sent ++ [x], next := xs }), ((s.first : Int) + (s.sent.length : Nat)) % 128, some x) := by
          unfold Bs.nx
          rw [if_neg h1, if_neg h2, hs]
        refine (next_send p hb B T0 t s x xs w h ha hs (by omega) hBw).mono ?_
        rintro e w' ⟨v, T1, rfl, hm, hin, hF⟩
        rw [e0]
        exact ⟨v, T1, rfl, hm, hin, hF⟩

/-- What a way sends next. -/
def Wt.nx : Wt → Hs → (Wt × Hs) × Int × Option (List Int)
  | .inl t, s => ((.inl (t.nx s).1.1, (t.nx s).1.2), (t.nx s).2)
  | .inr t, s => ((.inr (t.nx s).1.1, (t.nx s).1.2), (t.nx s).2)

theorem whold_any (p hb B : Nat) (T0 : Nat → Prop) (x : Wt) (s : Hs) (w : World) (h : WayIn w p hb B T0 x s) : Calls Tryz.prog (fHold x.cyclic) #[.pointer (some ⟨p, 0, none⟩)] w fun e w' => e = .returned (.pointer (some ⟨hb, 0, none⟩)) ∧ w' = w := by
  cases x with
  | inl t => exact bhold_any p hb B T0 t s w h
  | inr t => exact chold_any p hb B T0 t s w h

theorem wfill_any (p hb B : Nat) (T0 : Nat → Prop) (x : Wt) (s : Hs) (w : World) (h : WayIn w p hb B T0 x s) :
    Calls Tryz.prog (fFill x.cyclic) #[.pointer (some ⟨p, 0, none⟩)] w fun e w' => e = .returned (.agg (uC x.last s.last x.bib x.fib 0 (.slice none 0 0))) ∧ Below w.heap.size w w' := by
  cases x with
  | inl t => exact fill_any p hb B T0 t s w h
  | inr t => exact cfill_any p hb B T0 t s w h

theorem wnext_any (p hb B : Nat) (T0 : Nat → Prop) (x : Wt) (s : Hs) (w : World) (h : WayIn w p hb B T0 x s) (hBw : B ≤ w.heap.size) :
    Calls Tryz.prog (fNext x.cyclic) #[.pointer (some ⟨p, 0, none⟩)] w fun e w' => ∃ v T1, e = .returned (.agg (uC x.last (x.nx s).2.1 x.bib x.fib (kd (x.nx s).2.2) v)) ∧ InfoAt w' w.heap.size v (x.nx s).2.2 ∧ WayIn w' p hb B T1 (x.nx s).1.1 (x.nx s).1.2 ∧ Foot (fun g => g = p ∨ T0 g) (fun g => g = p ∨ T1 g) w w' := by
  cases x with
  | inl t => exact bnext_any p hb B T0 t s w h hBw
  | inr t => exact cnext_any p hb B T0 t s w h hBw

/-- What an answer leaves: how many it answers, the error. -/
def Wt.an : Wt → Hs → Int → Bool → (Wt × Hs) × Int × Int
  | .inl t, s, b, ub => if s.knows b then ((.inl (t.ans (s.free b).sent.length (s.upTo b) ub), s.free b), s.upTo b, 0) else ((.inl { t with b0 := true, b1 := t.b0 }, s), 0, if t.b0 || t.b1 then 10 else 0)
  | .inr t, s, b, ub => if s.knows b then ((.inr { t with b0 := false, b1 := t.b0, pl := t.pl - s.upTo b }, s.free b), s.upTo b, 0) else ((.inr { t with b0 := true, b1 := t.b0 }, s), 0, if t.b0 || t.b1 then 10 else 0)

theorem wans_any (p hb B : Nat) (T0 : Nat → Prop) (x : Wt) (s : Hs) (b f k st : Int) (ub uf wd : Bool) (v : Value) (w : World) (h : WayIn w p hb B T0 x s) (h0 : 0 ≤ b) (h1 : b ≤ 255) :
    Calls Tryz.prog (fAns x.cyclic) #[.pointer (some ⟨p, 0, none⟩), .agg #[.int .u8 b, .int .u8 f, .bool ub, .bool uf, .int .u8 k, .int .u8 st, .bool wd, v]] w fun e w' => e = .returned (.tuple #[.int .i64 (x.an s b ub).2.1, .int .i64 (x.an s b ub).2.2]) ∧ ∃ T1, WayIn w' p hb B T1 (x.an s b ub).1.1 (x.an s b ub).1.2 ∧ Foot (fun g => g = p ∨ T0 g) (fun g => g = p ∨ T1 g) w w' := by
  cases x with
  | inl t =>
    cases hk : s.knows b with
    | true =>
      have e0 : Wt.an (.inl t) s b ub = ((.inl (t.ans (s.free b).sent.length (s.upTo b) ub), s.free b), (s.upTo b : Int), 0) := by simp only [Wt.an, hk, if_true]
      rw [e0]
      exact answer_ok p hb B T0 t s b f k st ub uf wd v _ _ w h h0 hk rfl rfl
    | false =>
      have e0 : Wt.an (.inl t) s b ub = ((.inl { t with b0 := true, b1 := t.b0 }, s), 0, if t.b0 || t.b1 then 10 else 0) := by simp only [Wt.an, hk, Bool.false_eq_true, if_false]
      rw [e0]
      refine (answer_odd p hb B T0 t s b f k st ub uf wd v _ w h h0 h1 hk rfl).mono ?_
      rintro e w' ⟨rfl, hin, hF⟩
      exact ⟨rfl, T0, hin, hF⟩
  | inr t =>
    cases hk : s.knows b with
    | true =>
      have e0 : Wt.an (.inr t) s b ub = ((.inr { t with b0 := false, b1 := t.b0, pl := t.pl - s.upTo b }, s.free b), (s.upTo b : Int), 0) := by simp only [Wt.an, hk, if_true]
      rw [e0]
      exact canswer_ok p hb B T0 t s b f k st ub uf wd v _ w h h0 hk rfl
    | false =>
      have e0 : Wt.an (.inr t) s b ub = ((.inr { t with b0 := true, b1 := t.b0 }, s), 0, if t.b0 || t.b1 then 10 else 0) := by simp only [Wt.an, hk, Bool.false_eq_true, if_false]
      rw [e0]
      refine (canswer_odd p hb B T0 t s b f k st ub uf wd v _ w h h0 h1 hk rfl).mono ?_
      rintro e w' ⟨rfl, hin, hF⟩
      exact ⟨rfl, T0, hin, hF⟩

/-- What a unit brings: what it leaves, whether its message is taken, the error. -/
def Wt.tk : Wt → Int → Int → Bool → Wt × Bool × Int
  | .inl t, f, k, uf =>
    if uf = t.bib then (if k = 2 ∧ f = (t.last + 1) % 128 then (.inl { t with i0 := false, i1 := t.i0, last := f, ask := false }, true, 0)
      else if f = t.last then (.inl { t with i0 := false, i1 := t.i0, ask := false }, false, 0)
      else (.inl { t with i0 := false, i1 := t.i0, bib := !t.bib, ask := true }, false, 0))
    else (.inl { t with i0 := !t.ask, i1 := t.i0 }, false, if !t.ask && (t.i0 || t.i1) then 10 else 0)
  | .inr t, f, k, uf => if k = 2 ∧ f = (t.last + 1) % 128 then (.inr { t with last := f }, true, 0) else (.inr t, false, 0)

theorem wtake_any (p hb B B2 : Nat) (T0 : Nat → Prop) (x : Wt) (s : Hs) (b f st : Int) (ub uf wd : Bool) (v : Value) (i : Option (List Int)) (w : World) (h : WayIn w p hb B T0 x s) (hi : InfoAt w B2 v i) :
    Calls Tryz.prog (fTake x.cyclic) #[.pointer (some ⟨p, 0, none⟩), .agg #[.int .u8 b, .int .u8 f, .bool ub, .bool uf, .int .u8 (kd i), .int .u8 st, .bool wd, v]] w fun e w' => ∃ vo n vc, e = .returned (.tuple #[.slice vo n vc, .bool (x.tk f (kd i) uf).2.1, .int .i64 (x.tk f (kd i) uf).2.2]) ∧
      ((x.tk f (kd i) uf).2.1 = true → ∃ xs, i = some xs ∧ n = xs.length ∧ Reads w' vo (xs.map (.int .u8))) ∧ WayIn w' p hb B T0 (x.tk f (kd i) uf).1 s ∧ Foot (fun g => g = p ∨ T0 g) (fun g => g = p ∨ T0 g) w w' := by
  cases x with
  | inl t =>
    have h' : BasIn w p hb B T0 t s := h
    by_cases hst : uf = t.bib
    · by_cases hy : kd i = 2 ∧ f = (t.last + 1) % 128
      · have e0 : Wt.tk (.inl t) f (kd i) uf = (.inl { t with i0 := false, i1 := t.i0, last := f, ask := false }, true, 0) := by simp only [Wt.tk, if_pos hst, if_pos hy]
        rw [e0]
        cases i with
        | none => exact absurd hy.1 (by decide)
        | some xs =>
          have hm : HMsg w B2 v xs := hi
          have hl : xs.length ≤ 273 := hm.2.2.1
          obtain ⟨m, cap, cur, rfl, hcur, hBm, hmc, hrm⟩ := hm.form
          have h5 := h'.at_.not5 m cur hcur
          refine (take_in p hb B T0 t s b f st ub uf wd m 0 xs.length cap xs w h' hst hy.2 rfl (by omega) hrm (fun g hg e => h5 (e ▸ hg)) (heap_lt hcur)).mono ?_
          rintro e w' ⟨vv, rfl, hown, hin, hF⟩
          obtain ⟨ao, cap', rfl, -, hr, -⟩ := owns_form hown
          exact ⟨ao, _, cap', rfl, fun _ => ⟨xs, rfl, rfl, hr⟩, hin, hF⟩
      · by_cases hl : f = t.last
        · have e0 : Wt.tk (.inl t) f (kd i) uf = (.inl { t with i0 := false, i1 := t.i0, ask := false }, false, 0) := by simp only [Wt.tk, if_pos hst, if_neg hy, if_pos hl]
          rw [e0]
          refine (take_same p hb B T0 t s b f (kd i) st ub uf wd v w h' hst hl.symm).mono ?_
          rintro e w' ⟨rfl, hin, hF⟩
          exact ⟨none, 0, 0, rfl, fun c => Bool.noConfusion (show false = true from c), hin, hF⟩
        · have e0 : Wt.tk (.inl t) f (kd i) uf = (.inl { t with i0 := false, i1 := t.i0, bib := !t.bib, ask := true }, false, 0) := by simp only [Wt.tk, if_pos hst, if_neg hy, if_neg hl]
          rw [e0]
          refine (take_ask p hb B T0 t s b f (kd i) st ub uf wd v w h' hst hl hy).mono ?_
          rintro e w' ⟨rfl, hin, hF⟩
          exact ⟨none, 0, 0, rfl, fun c => Bool.noConfusion (show false = true from c), hin, hF⟩
    · have hst' : uf = !t.bib := by cases uf <;> cases hb : t.bib <;> simp_all
      have e0 : Wt.tk (.inl t) f (kd i) uf = (.inl { t with i0 := !t.ask, i1 := t.i0 }, false, if !t.ask && (t.i0 || t.i1) then 10 else 0) := by simp only [Wt.tk, if_neg hst]
      rw [e0]
      refine (take_stale p hb B T0 t s b f (kd i) st ub uf wd v _ _ _ w h' hst' rfl rfl rfl).mono ?_
      rintro e w' ⟨rfl, hin, hF⟩
      exact ⟨none, 0, 0, rfl, fun c => Bool.noConfusion (show false = true from c), hin, hF⟩
  | inr t =>
    have h' : CycIn w p hb B T0 t s := h
    by_cases hy : kd i = 2 ∧ f = (t.last + 1) % 128
    · have e0 : Wt.tk (.inr t) f (kd i) uf = (.inr { t with last := f }, true, 0) := by simp only [Wt.tk, if_pos hy]
      rw [e0]
      cases i with
      | none => exact absurd hy.1 (by decide)
      | some xs =>
        have hm : HMsg w B2 v xs := hi
        have hl : xs.length ≤ 273 := hm.2.2.1
        obtain ⟨m, cap, cur, rfl, hcur, hBm, hmc, hrm⟩ := hm.form
        have h5 := h'.at_.not5 m cur hcur
        refine (take_yes p hb B T0 t s b f st ub uf wd (some ⟨m, 0, none⟩) xs.length cap xs w h' hy.2 rfl (by omega) (fun c => by cases c) hrm (fun ad e _ => by
          simp only [Option.some.injEq] at e
          subst e
          exact fun e => h5 (.inl e))).mono ?_
        rintro e w' ⟨vo, vc, rfl, hr, hin, hF⟩
        exact ⟨vo, _, vc, rfl, fun _ => ⟨xs, rfl, rfl, hr⟩, hin, hF⟩
    · have e0 : Wt.tk (.inr t) f (kd i) uf = (.inr t, false, 0) := by simp only [Wt.tk, if_neg hy]
      rw [e0]
      refine (take_no p hb B T0 t s b f (kd i) st ub uf wd v w h' (by omega)).mono ?_
      rintro e w' ⟨rfl, hB⟩
      exact ⟨none, 0, 0, rfl, fun c => Bool.noConfusion (show false = true from c), h'.below hB, Foot.of_below hB⟩

/-- What all ways in memory have. -/
theorem WayIn.hold {w : World} {p hb B : Nat} {T0 : Nat → Prop} {x : Wt} {s : Hs} (h : WayIn w p hb B T0 x s) : HoldAt w hb B T0 s := by
  cases x with
  | inl t => exact BasIn.hold h
  | inr t => exact CycIn.hold h
theorem WayIn.low {w : World} {p hb B : Nat} {T0 : Nat → Prop} {x : Wt} {s : Hs} (h : WayIn w p hb B T0 x s) : ∀ g, (g = p ∨ T0 g) → B ≤ g ∧ g < w.heap.size := by
  cases x with
  | inl t => exact (BasIn.at_ h).lt
  | inr t => exact (CycIn.at_ h).lt
theorem WayIn.below {w w' : World} {p hb B : Nat} {T0 : Nat → Prop} {x : Wt} {s : Hs} (h : WayIn w p hb B T0 x s) (hb' : Below w.heap.size w w') : WayIn w' p hb B T0 x s := by
  cases x with
  | inl t => exact BasIn.below h hb'
  | inr t => exact CycIn.below h hb'
theorem WayIn.not5 {w : World} {p hb B : Nat} {T0 : Nat → Prop} {x : Wt} {s : Hs} (h : WayIn w p hb B T0 x s) : ∀ (g : Nat) cur, w.heap[g]? = some (.cells cur 5 (0, 0)) → ¬ (g = p ∨ T0 g) := by
  cases x with
  | inl t => exact (BasIn.at_ h).not5
  | inr t => exact (CycIn.at_ h).not5
theorem WayIn.step {w w' : World} {p hb B : Nat} {T0 T0' : Nat → Prop} {x : Wt} {s s' : Hs} (h : WayIn w p hb B T0 x s) (hat : HoldAt w' hb B T0' s') (hf : Foot T0 T0' w w') : WayIn w' p hb B T0' x s' ∧ Foot (fun g => g = p ∨ T0 g) (fun g => g = p ∨ T0' g) w w' := by
  cases x with
  | inl t => exact BasIn.step h hat hf
  | inr t => exact CycIn.step h hat hf
theorem WayIn.fbelow {w w' : World} {p hb B : Nat} {T0 T1 : Nat → Prop} {x : Wt} {s : Hs} (h : WayIn w p hb B T0 x s) (hF : Foot (fun g => g = p ∨ T0 g) (fun g => g = p ∨ T1 g) w w') {C : Nat} (hC : C ≤ B) (hw : C ≤ w.heap.size) : Below C w w' :=
  hF.below (fun g hg => Nat.le_trans hC (h.low g hg).1) hw
/-- What another's step leaves of a way that is apart from it. -/
theorem WayIn.other {w w' : World} {p hb B : Nat} {T0 T1 T1' : Nat → Prop} {x : Wt} {s : Hs} (h : WayIn w p hb B T0 x s) (hf : Foot T1 T1' w w') (hd : ∀ g, (g = p ∨ T0 g) → ¬ T1 g) (h5 : ∀ (g : Nat) cur, w.heap[g]? = some (.cells cur 5 (0, 0)) → ¬ T1 g) : WayIn w' p hb B T0 x s := by
  cases x with
  | inl t =>
    have h : BasIn w p hb B T0 t s := h
    exact ⟨(hf.block p (heap_lt h.cells) (hd p (.inl rfl))).trans h.cells, h.hold.stay (fun k hk => hf.block k (h.hold.mine k hk).2 (hd k (.inr hk))) (fun k cur hk => hf.block k (heap_lt hk) (h5 k cur hk)), h.lowp, h.lowh, h.last, h.again⟩
  | inr t =>
    have h : CycIn w p hb B T0 t s := h
    exact ⟨(hf.block p (heap_lt h.cells) (hd p (.inl rfl))).trans h.cells, h.hold.stay (fun k hk => hf.block k (h.hold.mine k hk).2 (hd k (.inr hk))) (fun k cur hk => hf.block k (heap_lt hk) (h5 k cur hk)), h.lowp, h.lowh, h.last, h.pl⟩
/-- A unit's block is none of a way's. -/
theorem WayIn.notU {w : World} {p hb B : Nat} {T0 : Nat → Prop} {x : Wt} {s : Hs} (h : WayIn w p hb B T0 x s) : ∀ (g : Nat) cur, w.heap[g]? = some (.cells cur 32 (0, 0)) → ¬ (g = p ∨ T0 g) := by
  cases x with
  | inl t =>
    intro g cur hg e
    obtain ⟨cur', t, hh, ht⟩ := (BasIn.at_ h).kind g e
    rw [hg] at hh
    simp only [Option.some.injEq, Obj.cells.injEq] at hh
    obtain ⟨-, rfl, -⟩ := hh
    rcases ht with e | e | e <;> exact absurd e (by decide)
  | inr t => exact (CycIn.at_ h).not37
end Go.Proofs.YtldjglmelbkngaaGreat.Tape
