/- The two sides of BasicLoses, step by step, by the numbers of Lose1. -/
import Derived.Test.YtdngcfojodahdaaLose2
import Derived.Test.YtdngcfojodahdaaBasic5
import Derived.Test.YtdngcfojodahdaaUnits1
import Derived.Test.YtdngcfojodahdaaBackW
namespace Go.Proofs.Ytdngcfojodahdaa.Tape
open Go.ChangeShapes Go.WideShapes Go.ChangeAt Go.RowKit
set_option linter.unusedVariables false

/-- The messages a .. b-1. -/
def mgr (a b : Nat) : List (List Int) := (List.range' a (b - a)).map mg
theorem mgr_len (a b : Nat) : (mgr a b).length = b - a := by simp [mgr]
theorem mgr_get (a b i : Nat) (h : i < (mgr a b).length) : (mgr a b)[i] = mg (a + i) := by simp [mgr]
theorem mgr_cons {a b : Nat} (h : a < b) : mgr a b = mg a :: mgr (a + 1) b := by
  unfold mgr
  rw [show b - a = (b - (a + 1)) + 1 by omega, List.range'_succ]
  rfl
theorem mgr_nil {a b : Nat} (h : b ≤ a) : mgr a b = [] := by
  unfold mgr
  rw [show b - a = 0 by omega]
  rfl
theorem mgr_snoc {a b : Nat} (h : a ≤ b) : mgr a b ++ [mg b] = mgr a (b + 1) := by
  unfold mgr
  rw [show b + 1 - a = (b - a) + 1 by omega, List.range'_concat, List.map_append]
  simp
  congr 1
  omega
theorem mgr_drop (a b n : Nat) : (mgr a b).drop n = mgr (a + n) b := by
  unfold mgr
  rw [← List.map_drop, List.drop_range', show b - a - n = b - (a + n) by omega]
  simp
theorem sz_mgr (a : Nat) : ∀ n, sz (mgr a (a + n)) = 3 * n
  | 0 => by rw [mgr_nil (by omega)]; rfl
  | n + 1 => by
    rw [show a + (n + 1) = a + n + 1 by omega, ← mgr_snoc (by omega), sz_append, sz_mgr a n]
    simp [sz, mg]
    omega

/-- What a has, and b. -/
def taB (s : Ls) : Bs := ⟨decide (s.A % 2 = 0), true, 127, false, if s.r < s.S then ((s.r - s.f : Nat) : Int) else -1, false, false, false, false⟩
def saH (k : Nat) (s : Ls) : Hs := ⟨200, 100000, s.f, mgr s.f s.S, mgr s.S k⟩
def tbB (s : Ls) : Bs := ⟨true, decide (s.B % 2 = 0), ((s.g : Int) + 127) % 128, s.ask, -1, false, false, false, false⟩
def sb0 : Hs := ⟨200, 100000, 0, [], []⟩
/-- Once a has sent. -/
def Ls.sent (k : Nat) (s : Ls) : Ls := { s with S := max s.S (s.r1 k), r := s.r1 k }
/-- Within the bounds. -/
structure Ls.Fine (k : Nat) (s : Ls) : Prop where
  fr : s.f ≤ s.r
  rS : s.r ≤ s.S
  Sk : s.S ≤ k
  k40 : k < 40

/-- The unit that a sends in a state. -/
def UA (w : World) (C k : Nat) (u : Array Value) (s : Ls) : Prop :=
  (s.r < k ∧ ∃ v, u = uC 127 s.r true (decide (s.A % 2 = 0)) 2 v ∧ HMsg w C v (mg s.r)) ∨
  (¬ s.r < k ∧ u = uC 127 (((k : Int) + 127) % 128) true (decide (s.A % 2 = 0)) 0 (.slice none 0 0))
/-- .. and b. -/
def UB (s : Ls) : Array Value := uC (((s.g : Int) + 127) % 128) 127 (decide (s.B % 2 = 0)) true 0 (.slice none 0 0)

theorem HMsg.lower {w : World} {B C : Nat} {u : Value} {xs : List Int} (h : HMsg w B u xs) (hC : C ≤ B) : HMsg w C u xs := ⟨owns_lower h.1 hC, h.2⟩

theorem UA.keep {w w' : World} {C k : Nat} {u : Array Value} {s : Ls} (h : UA w C k u s) (hk : ∀ (g : Nat) cur, w.heap[g]? = some (.cells cur 5 (0, 0)) → w'.heap[g]? = w.heap[g]?) : UA w' C k u s := by
  rcases h with ⟨h1, v, h2, h3⟩ | h
  · exact .inl ⟨h1, v, h2, h3.at_ fun g cur _ hg => hk g cur hg⟩
  · exact .inr h

theorem UA.form {w : World} {C k : Nat} {u : Array Value} {s : Ls} (h : UA w C k u s) : ∃ f kd ao n c, u = uC 127 f true (decide (s.A % 2 = 0)) kd (.slice ao n c) := by
  rcases h with ⟨h1, v, h2, h3⟩ | ⟨h1, h2⟩
  · obtain ⟨m, cap, cur, rfl, -⟩ := h3.form
    exact ⟨_, _, _, _, _, h2⟩
  · exact ⟨_, _, _, _, _, h2⟩

theorem a_next (p hb C k : Nat) (T : Nat → Prop) (s : Ls) (w : World) (h : BasIn w p hb C T (taB s) (saH k s)) (hf : s.Fine k) (hC : C ≤ w.heap.size) :
    Calls Try.prog 12 #[.pointer (some ⟨p, 0, none⟩)] w fun e w' => ∃ u T1, e = .returned (.agg u) ∧ UA w' C k u s ∧ BasIn w' p hb C T1 (taB (s.sent k)) (saH k (s.sent k)) ∧ Foot (fun g => g = p ∨ T g) (fun g => g = p ∨ T1 g) w w' := by
  obtain ⟨fr, rS, Sk, k40⟩ := hf
  by_cases h1 : s.r < s.S
  · have hlen : s.r - s.f < (saH k s).sent.length := by simp only [saH, mgr_len]; omega
    refine (next_again p hb C T (taB s) (saH k s) (s.r - s.f) w h (by simp only [taB]; rw [if_pos h1]) hlen hC).mono ?_
    rintro e w' ⟨v, rfl, hm, hin, hF⟩
    have e1 : (((saH k s).first : Int) + ((s.r - s.f : Nat) : Int)) % 128 = s.r := by simp only [saH]; omega
    have hm' : HMsg w' C v (mg s.r) := by
      have := hm.lower hC
      rw [show (saH k s).sent[s.r - s.f] = mg (s.f + (s.r - s.f)) from mgr_get _ _ _ _, show s.f + (s.r - s.f) = s.r by omega] at this
      exact this
    have e2 : (taB s).to (saH k s).sent.length (((s.r - s.f : Nat) : Int) + 1) = taB (s.sent k) := by
      unfold taB Bs.to Ls.sent Ls.r1
      simp only [saH, mgr_len, Bs.mk.injEq, and_true, true_and]
      rw [if_pos (show s.r < k by omega)]
      split <;> split <;> omega
    have e3 : saH k (s.sent k) = saH k s := by
      unfold saH Ls.sent Ls.r1
      rw [if_pos (show s.r < k by omega)]
      simp only
      rw [show max s.S (s.r + 1) = s.S by omega]
    rw [e1]
    rw [e2] at hin
    rw [e3]
    exact ⟨_, T, rfl, .inl ⟨by omega, v, rfl, hm'⟩, hin, hF⟩
  · have hrS : s.r = s.S := by omega
    have hag : (taB s).again < 0 ∨ (saH k s).sent.length ≤ (taB s).again := .inl (by simp only [taB]; rw [if_neg h1]; omega)
    have e0 : ({ taB s with again := -1 } : Bs) = taB s := by
      unfold taB
      simp only [Bs.mk.injEq, and_true, true_and]
      rw [if_neg h1]
    by_cases h2 : s.S < k
    · refine (next_send p hb C T (taB s) (saH k s) (mg s.S) (mgr (s.S + 1) k) w h hag (mgr_cons h2) (by simp only [saH, mgr_len]; omega) hC).mono ?_
      rintro e w' ⟨v, T1, rfl, hm, hin, hF⟩
      have e1 : (((saH k s).first : Int) + ((saH k s).sent.length : Nat)) % 128 = s.r := by simp only [saH, mgr_len]; omega
      have e2 : taB (s.sent k) = taB s := by
        unfold taB Ls.sent Ls.r1
        simp only [Bs.mk.injEq, and_true, true_and]
        rw [if_pos (show s.r < k by omega), if_neg (by omega), if_neg h1]
      have e3 : saH k (s.sent k) = { saH k s with sent := (saH k s).sent ++ [mg s.S], next := mgr (s.S + 1) k } := by
        unfold saH Ls.sent Ls.r1
        rw [if_pos (show s.r < k by omega)]
        simp only
        rw [mgr_snoc (by omega), show max s.S (s.r + 1) = s.S + 1 by omega]
      rw [e1]
      rw [e0] at hin
      rw [e2, e3]
      exact ⟨_, T1, rfl, .inl ⟨by omega, v, rfl, by rw [hrS]; exact hm.lower hC⟩, hin, hF⟩
    · refine (next_fill p hb C T (taB s) (saH k s) w h hag (.inl (mgr_nil (by omega)))).mono ?_
      rintro e w' ⟨rfl, hin, hF⟩
      have e1 : (saH k s).last = ((k : Int) + 127) % 128 := by
        unfold Hs.last
        simp only [saH, mgr_len]
        omega
      have e2 : s.sent k = s := by
        unfold Ls.sent Ls.r1
        rw [if_neg (by omega)]
        cases s
        simp only [Ls.mk.injEq, and_true, true_and] at *
        omega
      rw [e0] at hin
      rw [e1, e2]
      exact ⟨_, T, rfl, .inr ⟨by omega, rfl⟩, hin, hF⟩

theorem b_next (p hb C : Nat) (T : Nat → Prop) (s : Ls) (w : World) (h : BasIn w p hb C T (tbB s) sb0) :
    Calls Try.prog 12 #[.pointer (some ⟨p, 0, none⟩)] w fun e w' => e = .returned (.agg (UB s)) ∧ BasIn w' p hb C T (tbB s) sb0 ∧ Foot (fun g => g = p ∨ T g) (fun g => g = p ∨ T g) w w' := by
  refine (next_fill p hb C T (tbB s) sb0 w h (.inl (by simp [tbB])) (.inl rfl)).mono ?_
  rintro e w' ⟨rfl, hin, hF⟩
  exact ⟨rfl, hin, hF⟩

theorem b_answer (p hb C : Nat) (T : Nat → Prop) (s : Ls) (f kd : Int) (uf : Bool) (x : Value) (w : World) (h : BasIn w p hb C T (tbB s) sb0) :
    Calls Try.prog 13 #[.pointer (some ⟨p, 0, none⟩), .agg (uC 127 f true uf kd x)] w fun e w' => e = .returned (.tuple #[.int .i64 0, .int .i64 0]) ∧ ∃ T1, BasIn w' p hb C T1 (tbB s) sb0 ∧ Foot (fun g => g = p ∨ T g) (fun g => g = p ∨ T1 g) w w' := by
  refine (answer_ok p hb C T (tbB s) sb0 127 f kd 0 true uf false x 0 0 w h (by omega) (by decide) (by decide) (by decide)).mono ?_
  rintro e w' ⟨rfl, T1, hin, hF⟩
  have e1 : (tbB s).ans 0 0 true = tbB s := by
    unfold Bs.ans tbB
    simp
  have e2 : sb0.free 127 = sb0 := rfl
  rw [e1, e2] at hin
  exact ⟨rfl, T1, hin, hF⟩

/-- What b is told of a unit of a's, and what is then. -/
theorem b_take (p hb C k : Nat) (T : Nat → Prop) (s o : Ls) (ra : Bool) (u : Array Value) (w : World) (h : BasIn w p hb C T (tbB s) sb0) (hu : UA w C k u o)
    (hB : o.A ≤ s.B ∧ s.B ≤ o.A + 1) (hask : s.B = o.A + 1 → s.ask = true) (hah : o.A = s.B → s.g ≤ o.r) (hk : k < 40) (hrk : o.r ≤ k) (hgk : s.g ≤ k) :
    Calls Try.prog 14 #[.pointer (some ⟨p, 0, none⟩), .agg u] w fun e w' => ∃ (v : Value) (ok : Bool), e = .returned (.tuple #[v, .bool ok, .int .i64 0]) ∧ (ok = true → s.g < k ∧ ∃ m c, v = .slice (some ⟨m, 0, none⟩) 3 c ∧ w'.cell? ⟨m, 0, none⟩ = some (.int .u8 s.g)) ∧
      (s.step k true ra o).g = (if ok then s.g + 1 else s.g) ∧ BasIn w' p hb C T (tbB (s.step k true ra o)) sb0 ∧ Foot (fun g => g = p ∨ T g) (fun g => g = p ∨ T g) w w' := by
  by_cases hst : o.A = s.B
  · -- the indicator is right
    have hfit : o.A % 2 = s.B % 2 := by rw [hst]
    have huf : decide (o.A % 2 = 0) = (tbB s).bib := by simp only [tbB]; rw [hfit]
    have hg := hah hst
    rcases hu with ⟨h1, v, rfl, hm⟩ | ⟨h1, rfl⟩
    · obtain ⟨m, cap, cur, rfl, hcur, hBm, hmc, hrm⟩ := hm.form
      by_cases ht : o.r = s.g
      · -- it is the one that b waits for
        have hf : ((o.r : Nat) : Int) = ((tbB s).last + 1) % 128 := by simp only [tbB]; omega
        have h5 := h.at_.not5 m cur hcur
        refine (take_in p hb C T (tbB s) sb0 127 o.r 0 true _ false m 0 (mg o.r).length cap (mg o.r) w h huf hf rfl (by simp [mg]) hrm (fun g hg e => h5 (e ▸ hg)) (heap_lt hcur)).mono ?_
        rintro e w' ⟨v', rfl, hown, hin, hF⟩
        obtain ⟨m', c', hv', hc'⟩ := HMsg.three (B := w.heap.size) ⟨hown, by simp [mg], by simp [mg], fun x hx => by simp [mg] at hx; omega⟩ o.r 1 2 rfl
        have hs : s.step k true ra o = { s.step k true ra o with g := s.g + 1, B := s.B, ask := false } := by
          unfold Ls.step
          simp only [if_true, if_pos hfit, if_pos (show o.r < k ∧ o.r = s.g from ⟨h1, ht⟩)]
        refine ⟨v', true, rfl, fun _ => ⟨by omega, m', c', hv', by rw [← ht]; exact hc'⟩, by rw [hs]; rfl, ?_, hF⟩
        have e2 : tbB (s.step k true ra o) = { tbB s with i0 := false, i1 := (tbB s).i0, last := ((o.r : Nat) : Int), ask := false } := by
          rw [hs]
          unfold tbB
          simp only [Bs.mk.injEq, and_true, true_and]
          omega
        rw [e2]
        exact hin
      · -- one is missing
        have hr1 : o.r1 k = o.r + 1 := by unfold Ls.r1; rw [if_pos h1]
        refine (take_ask p hb C T (tbB s) sb0 127 o.r 2 0 true _ false _ w h huf (by simp only [tbB]; omega) (by simp only [tbB]; omega)).mono ?_
        rintro e w' ⟨rfl, hin, hF⟩
        have hs : s.step k true ra o = { s.step k true ra o with g := s.g, B := s.B + 1, ask := true } := by
          unfold Ls.step
          simp only [if_true, if_pos hfit, if_neg (show ¬ (o.r < k ∧ o.r = s.g) from fun c => ht c.2), if_neg (show ¬ o.r1 k = s.g by omega)]
        refine ⟨_, false, rfl, fun c => absurd c (by decide), by rw [hs]; rfl, ?_, hF⟩
        have e2 : tbB (s.step k true ra o) = { tbB s with i0 := false, i1 := (tbB s).i0, bib := !(tbB s).bib, ask := true } := by
          rw [hs]
          unfold tbB
          simp only [Bs.mk.injEq, and_true, true_and]
          rw [Bool.eq_iff_iff]
          simp
          omega
        rw [e2]
        exact hin
    · have hr1 : o.r1 k = o.r := by unfold Ls.r1; rw [if_neg h1]
      have hrk' : o.r = k := by omega
      by_cases ht : k = s.g
      · refine (take_same p hb C T (tbB s) sb0 127 (((k : Int) + 127) % 128) 0 0 true _ false _ w h huf (by simp only [tbB]; rw [ht])).mono ?_
        rintro e w' ⟨rfl, hin, hF⟩
        have hs : s.step k true ra o = { s.step k true ra o with g := s.g, B := s.B, ask := false } := by
          unfold Ls.step
          simp only [if_true, if_pos hfit, if_neg (show ¬ (o.r < k ∧ o.r = s.g) from fun c => h1 c.1), if_pos (show o.r1 k = s.g by omega)]
        refine ⟨_, false, rfl, fun c => absurd c (by decide), by rw [hs]; rfl, ?_, hF⟩
        have e2 : tbB (s.step k true ra o) = { tbB s with i0 := false, i1 := (tbB s).i0, ask := false } := by
          rw [hs]
          rfl
        rw [e2]
        exact hin
      · refine (take_ask p hb C T (tbB s) sb0 127 (((k : Int) + 127) % 128) 0 0 true _ false _ w h huf (by simp only [tbB]; omega) (by omega)).mono ?_
        rintro e w' ⟨rfl, hin, hF⟩
        have hs : s.step k true ra o = { s.step k true ra o with g := s.g, B := s.B + 1, ask := true } := by
          unfold Ls.step
          simp only [if_true, if_pos hfit, if_neg (show ¬ (o.r < k ∧ o.r = s.g) from fun c => h1 c.1), if_neg (show ¬ o.r1 k = s.g by omega)]
        refine ⟨_, false, rfl, fun c => absurd c (by decide), by rw [hs]; rfl, ?_, hF⟩
        have e2 : tbB (s.step k true ra o) = { tbB s with i0 := false, i1 := (tbB s).i0, bib := !(tbB s).bib, ask := true } := by
          rw [hs]
          unfold tbB
          simp only [Bs.mk.injEq, and_true, true_and]
          rw [Bool.eq_iff_iff]
          simp
          omega
        rw [e2]
        exact hin
  · -- an elder indicator, while one is asked for again
    have hnf : ¬ o.A % 2 = s.B % 2 := by omega
    have ha := hask (by omega)
    have huf : decide (o.A % 2 = 0) = !(tbB s).bib := by
      simp only [tbB]
      rw [Bool.eq_iff_iff]
      simp
      omega
    obtain ⟨f, kd, ao, n, c, rfl⟩ := hu.form
    refine (take_stale p hb C T (tbB s) sb0 127 f kd 0 true _ false (.slice ao n c) 0 false false w h huf (by simp [tbB, ha]) (by simp) rfl).mono ?_
    rintro e w' ⟨rfl, hin, hF⟩
    have hs : s.step k true ra o = { s.step k true ra o with g := s.g, B := s.B, ask := s.ask } := by
      unfold Ls.step
      simp only [if_true, if_neg hnf]
    refine ⟨_, false, rfl, fun c => absurd c (by decide), by rw [hs]; rfl, ?_, hF⟩
    have e2 : tbB (s.step k true ra o) = { tbB s with i0 := false, i1 := (tbB s).i0 } := by
      rw [hs]
      rfl
    rw [e2]
    exact hin

theorem b_none (k : Nat) (s o : Ls) (ra : Bool) : tbB (s.step k false ra o) = tbB s ∧ (s.step k false ra o).g = s.g := by
  unfold tbB Ls.step
  simp

theorem a_none (k : Nat) (s o : Ls) (rb : Bool) : taB (s.step k rb false o) = taB (s.sent k) ∧ saH k (s.step k rb false o) = saH k (s.sent k) := by
  unfold taB saH Ls.step Ls.sent
  simp

/-- What a is told of a unit of b's, and what is then. -/
theorem a_answer (p hb C k : Nat) (T : Nat → Prop) (s o : Ls) (rb : Bool) (w : World) (h : BasIn w p hb C T (taB (s.sent k)) (saH k (s.sent k))) (hf : s.Fine k) (h1 : s.f ≤ o.g) (h2 : o.g ≤ s.S) :
    Calls Try.prog 13 #[.pointer (some ⟨p, 0, none⟩), .agg (UB o)] w fun e w' => e = .returned (.tuple #[.int .i64 ((o.g - s.f : Nat) : Int), .int .i64 0]) ∧ ∃ T1, BasIn w' p hb C T1 (taB (s.step k rb true o)) (saH k (s.step k rb true o)) ∧ Foot (fun g => g = p ∨ T g) (fun g => g = p ∨ T1 g) w w' := by
  obtain ⟨fr, rS, Sk, k40⟩ := hf
  have hr1 : (s.r1 k) ≤ k ∧ s.r ≤ s.r1 k := by unfold Ls.r1; split <;> omega
  have hSf : (saH k (s.sent k)).first = s.f := rfl
  have hSl : (saH k (s.sent k)).sent = mgr s.f (max s.S (s.r1 k)) := rfl
  have hkn : (saH k (s.sent k)).knows (((o.g : Int) + 127) % 128) = true := by
    unfold Hs.knows
    rw [decide_eq_true_iff, hSf, hSl, mgr_len]
    omega
  have hup : (saH k (s.sent k)).upTo (((o.g : Int) + 127) % 128) = o.g - s.f := by
    unfold Hs.upTo
    rw [hSf]
    omega
  have hfr : (saH k (s.sent k)).free (((o.g : Int) + 127) % 128) = saH k (s.step k rb true o) := by
    unfold Hs.free
    rw [hup, hSl, mgr_drop, show s.f + (o.g - s.f) = o.g by omega]
    unfold saH Ls.step Ls.sent
    simp only [Hs.mk.injEq, true_and, and_true, if_true]
    omega
  refine (answer_ok p hb C T _ _ (((o.g : Int) + 127) % 128) 127 0 0 (decide (o.B % 2 = 0)) true false (.slice none 0 0) (max s.S (s.r1 k) - o.g) ((o.g - s.f : Nat) : Int) w h (by omega) hkn (by rw [hfr]; unfold saH Ls.step; simp only [mgr_len, if_true]) (by rw [hup])).mono ?_
  rintro e w' ⟨rfl, T1, hin, hF⟩
  rw [hfr] at hin
  refine ⟨rfl, T1, ?_, hF⟩
  have e2 : (taB (s.sent k)).ans (max s.S (s.r1 k) - o.g) ((o.g - s.f : Nat) : Int) (decide (o.B % 2 = 0)) = taB (s.step k rb true o) := by
    by_cases hp : o.B % 2 = s.A % 2
    · unfold Bs.ans
      rw [if_pos (show decide (o.B % 2 = 0) = (taB (s.sent k)).fib by show decide (o.B % 2 = 0) = decide (s.A % 2 = 0); rw [hp])]
      unfold taB Ls.sent Ls.step Bs.to
      simp only [if_true, if_pos hp]
      by_cases hlt : s.r1 k < max s.S (s.r1 k)
      · rw [if_pos hlt, if_neg (by omega)]
        simp only [Bs.mk.injEq, and_true, true_and]
        repeat' split
        all_goals omega
      · rw [if_neg hlt, if_pos rfl]
        simp only [Bs.mk.injEq, and_true, true_and]
        rw [if_neg (by omega)]
    · unfold Bs.ans
      rw [if_neg (show ¬ decide (o.B % 2 = 0) = (taB (s.sent k)).fib by
        intro c
        have c' : decide (o.B % 2 = 0) = decide (s.A % 2 = 0) := c
        rw [decide_eq_decide] at c'
        omega)]
      unfold taB Ls.sent Ls.step Bs.to
      simp only [if_true, if_neg hp]
      by_cases hlt : (if s.r1 k < max s.S (s.r1 k) then ((s.r1 k - s.f : Nat) : Int) else -1) = -1
      · rw [if_pos hlt]
        simp only [Bs.mk.injEq, and_true, true_and, decide_eq_decide]
        refine ⟨by omega, ?_⟩
        repeat' split
        all_goals omega
      · rw [if_neg hlt]
        simp only [Bs.mk.injEq, and_true, true_and, decide_eq_decide]
        refine ⟨by omega, ?_⟩
        repeat' split
        all_goals omega
  rw [← e2]
  exact hin

theorem a_take (p hb C k : Nat) (T : Nat → Prop) (s o : Ls) (w : World) (h : BasIn w p hb C T (taB s) (saH k s)) :
    Calls Try.prog 14 #[.pointer (some ⟨p, 0, none⟩), .agg (UB o)] w fun e w' => e = .returned (.tuple #[.slice none 0 0, .bool false, .int .i64 0]) ∧ BasIn w' p hb C T (taB s) (saH k s) ∧ Foot (fun g => g = p ∨ T g) (fun g => g = p ∨ T g) w w' := by
  refine (take_same p hb C T (taB s) (saH k s) (((o.g : Int) + 127) % 128) 127 0 0 (decide (o.B % 2 = 0)) true false (.slice none 0 0) w h rfl rfl).mono ?_
  rintro e w' ⟨rfl, hin, hF⟩
  exact ⟨rfl, hin, hF⟩
end Go.Proofs.Ytdngcfojodahdaa.Tape
