/- What a unit that comes makes of a way: one contract for all units, of the reference and of the program. -/
import Derived.Test.YtmnhciildlmjcaaTwin12
namespace Go.Proofs.Ytmnhciildlmjcaa.Tape
open Go.ChangeShapes Go.WideShapes Go.ChangeAt Go.RowKit
set_option linter.unusedVariables false

/-- What an answer leaves of a way, of its messages, and what it says. -/
def Cs.ansC (t : Cs) (s : Hs) (b : Int) : Cs := if s.knows b = true then { t with b0 := false, b1 := t.b0, pl := t.pl - s.upTo b } else { t with b0 := true, b1 := t.b0 }
def Hs.ansH (s : Hs) (b : Int) : Hs := if s.knows b = true then s.free b else s
def Hs.ansN (s : Hs) (b : Int) : Int := if s.knows b = true then s.upTo b else 0
def Cs.ansE (t : Cs) (s : Hs) (b : Int) : Int := if s.knows b = true then 0 else if (t.b0 || t.b1) = true then 10 else 0

theorem ranswer_all {w : World} {B : Nat} {lo : Option Addr} {n cap : Nat} (s : Hs) (t : Cs) (m o : Int) (b x k st : Int) (ub uf wd : Bool) (v : Value) (hr : PRow w B lo n cap (s.sent ++ s.next)) (hsm : n ≤ 1000) (hf : s.first < 128) (hpl : t.pl ≤ 1000) (hb0 : 0 ≤ b) (hb1 : b ≤ 255) :
    Calls Try.prog 15 #[.agg (sideC (.slice lo n cap) s.sent.length s.first m o (tlC t)), .agg #[.int .u8 b, .int .u8 x, .bool ub, .bool uf, .int .u8 k, .int .u8 st, .bool wd, v]] w fun e w' => ∃ lo' n' cap', e = .returned (.tuple #[.agg (sideC (.slice lo' n' cap') (s.ansH b).sent.length (s.ansH b).first m o (tlC (t.ansC s b))), .int .i64 (s.ansN b), .int .i64 (t.ansE s b)]) ∧ PRow w' B lo' n' cap' ((s.ansH b).sent ++ (s.ansH b).next) ∧ (∀ ad, lo' = some ad → ∃ ad', lo = some ad' ∧ ad'.block = ad.block) ∧ Below w.heap.size w w' := by
  have hk := knows_bhd s b hf hb0
  unfold Hs.ansH Cs.ansC Hs.ansN Cs.ansE
  cases hK : s.knows b with
  | true =>
    obtain ⟨h1, h2⟩ := hk.1 hK
    have e1 : ((s.free b).sent.length : Int) = (s.sent.length : Int) - (s.upTo b : Nat) := by unfold Hs.free; simp only [List.length_drop]; omega
    have e2 : ((s.free b).first : Int) = ((s.first : Int) + (s.upTo b : Nat)) % 128 := by unfold Hs.free Hs.upTo; simp only; omega
    simp only [if_true]
    rw [e1, e2]
    exact ranswer_ok s t m o b x k st ub uf wd v (s.upTo b) hr hsm hf hpl hb0 hb1 h1 h2
  | false =>
    have h1 := hk.2 hK
    simp only [Bool.false_eq_true, if_false]
    refine (ranswer_odd (lo := lo) (n := n) (cap := cap) t s.sent.length s.first m o b x k st _ ub uf wd v hb0 hb1 (by omega) (by omega) h1 rfl).mono ?_
    rintro e w' ⟨rfl, hB⟩
    exact ⟨lo, n, cap, rfl, hr.below hB, fun ad e => ⟨ad, e, rfl⟩, hB⟩

theorem canswer_all (p hb B : Nat) (T0 : Nat → Prop) (t : Cs) (s : Hs) (b f k st : Int) (ub uf wd : Bool) (x : Value) (w : World) (h : CycIn w p hb B T0 t s) (h0 : 0 ≤ b) (h1 : b ≤ 255) :
    Calls Try.prog 16 #[.pointer (some ⟨p, 0, none⟩), .agg #[.int .u8 b, .int .u8 f, .bool ub, .bool uf, .int .u8 k, .int .u8 st, .bool wd, x]] w fun e w' => e = .returned (.tuple #[.int .i64 (s.ansN b), .int .i64 (t.ansE s b)]) ∧ ∃ T1, CycIn w' p hb B T1 (t.ansC s b) (s.ansH b) ∧ Foot (fun g => g = p ∨ T0 g) (fun g => g = p ∨ T1 g) w w' := by
  unfold Hs.ansH Cs.ansC Hs.ansN Cs.ansE
  cases hK : s.knows b with
  | true =>
    simp only [if_true]
    exact answer_ok p hb B T0 t s b f k st ub uf wd x (s.upTo b) w h h0 hK rfl
  | false =>
    simp only [Bool.false_eq_true, if_false]
    refine (answer_odd p hb B T0 t s b f k st ub uf wd x _ w h h0 h1 hK rfl).mono ?_
    rintro e w' ⟨rfl, hin, hF⟩
    exact ⟨rfl, T0, hin, hF⟩

/-- What is taken: the next one, whole. -/
theorem ctake_all (p hb B : Nat) (T0 : Nat → Prop) (t : Cs) (s : Hs) (b f k st : Int) (ub uf wd : Bool) (ao : Option Addr) (m cap : Nat) (xs : List Int) (R : Bool) (la : Int) (w : World) (h : CycIn w p hb B T0 t s) (hm : xs.length = m) (hl : m ≤ 1000) (hc : ao = none → cap = 0) (hrd : Reads w ao (xs.map (.int .u8)))
    (hap : ∀ ad, ao = some ad → 0 < m → ad.block ≠ p) (hR : R = decide (k = 2 ∧ f = (t.last + 1) % 128)) (hla : la = if R = true then (t.last + 1) % 128 else t.last) :
    Calls Try.prog 18 #[.pointer (some ⟨p, 0, none⟩), .agg #[.int .u8 b, .int .u8 f, .bool ub, .bool uf, .int .u8 k, .int .u8 st, .bool wd, .slice ao m cap]] w fun e w' => ∃ vo vn vc, e = .returned (.tuple #[.slice vo vn vc, .bool R, .int .i64 0]) ∧ (R = true → vn = m ∧ Reads w' vo (xs.map (.int .u8))) ∧ (R = false → vn = 0) ∧ CycIn w' p hb B T0 { t with last := la } s ∧ Foot (fun g => g = p ∨ T0 g) (fun g => g = p ∨ T0 g) w w' := by
  cases R with
  | true =>
    obtain ⟨rfl, hf⟩ := of_decide_eq_true hR.symm
    rw [if_pos rfl] at hla
    refine (take_yes p hb B T0 t s b f st ub uf wd ao m cap xs w h hf hm hl hc hrd hap).mono ?_
    rintro e w' ⟨vo, vc, rfl, hv, hin, hF⟩
    exact ⟨vo, m, vc, rfl, fun _ => ⟨rfl, hv⟩, fun e => absurd e (by simp), by rw [hla, ← hf]; exact hin, hF⟩
  | false =>
    have hn := of_decide_eq_false hR.symm
    rw [if_neg (by simp)] at hla
    refine (take_no p hb B T0 t s b f k st ub uf wd (.slice ao m cap) w h (by by_cases h2 : k = 2; exact .inr (fun e => hn ⟨h2, e⟩); exact .inl h2)).mono ?_
    rintro e w' ⟨rfl, hB⟩
    exact ⟨none, 0, 0, rfl, fun e => absurd e (by simp), fun _ => rfl, by rw [hla]; exact h.below hB, Foot.of_below hB⟩
end Go.Proofs.Ytmnhciildlmjcaa.Tape
