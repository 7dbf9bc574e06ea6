/- CyclicLoses' two sides: what each call makes of them. -/
import Derived.Test.YtmnhciildlmjcaaLose2
import Derived.Test.YtmnhciildlmjcaaUnits1
import Derived.Test.YtmnhciildlmjcaaMgs
namespace Go.Proofs.Ytmnhciildlmjcaa.Tape
open Go.ChangeShapes Go.WideShapes Go.ChangeAt Go.RowKit
set_option linter.unusedVariables false

/-- The bounds: n1 messages, n2 octets, of which c messages make use. -/
structure Bnd (n1 n2 : Int) (c : Nat) : Prop where
  lo : 1 ≤ c
  hi : c ≤ 12
  b1 : (c : Int) ≤ n1
  b2 : (3 * c : Int) ≤ n2
  b3 : n1 = c ∨ n2 < 3 * c + 3

theorem trip3 {α β γ : Type} {a a' : α} {b b' : β} {c c' : γ} (h1 : a = a') (h2 : b = b') (h3 : c = c') : (a, b, c) = (a', b', c') := by subst h1 h2 h3; rfl

/-- What a has, and b. -/
def taC (n1 n2 : Int) (s : Ls) : Cs := ⟨n1, n2, 127, s.P - s.f, s.fo, false, false⟩
def saH (k : Nat) (s : Ls) : Hs := ⟨200, 100000, s.f, mgr s.f s.S, mgr s.S k⟩
def tbC (n1 n2 : Int) (s : Ls) : Cs := ⟨n1, n2, ((s.g : Int) + 127) % 128, 0, false, false, false⟩
def sb0 : Hs := ⟨200, 100000, 0, [], []⟩

/-- The unit that a sends in a state. -/
def UA (w : World) (C k c : Nat) (u : Array Value) (s : Ls) : Prop :=
  (∃ i v, s.out k c = some i ∧ i < 20 ∧ u = uC 127 i true true 2 v ∧ HMsg w C v (mg i)) ∨
  (s.out k c = none ∧ ∃ f, u = uC 127 f true true 0 (.slice none 0 0))
/-- .. and b. -/
def UB (s : Ls) : Array Value := uC (((s.g : Int) + 127) % 128) 127 true true 0 (.slice none 0 0)

theorem HMsg.lower {w : World} {B C : Nat} {u : Value} {xs : List Int} (h : HMsg w B u xs) (hC : C ≤ B) : HMsg w C u xs := ⟨owns_lower h.1 hC, h.2⟩

theorem UA.keep {w w' : World} {C k c : Nat} {u : Array Value} {s : Ls} (h : UA w C k c u s) (hk : ∀ (g : Nat) cur, w.heap[g]? = some (.cells cur 5 (0, 0)) → w'.heap[g]? = w.heap[g]?) : UA w' C k c u s := by
  rcases h with ⟨i, v, h1, h2, h3, h4⟩ | h
  · exact .inl ⟨i, v, h1, h2, h3, h4.at_ fun g cur _ hg => hk g cur hg⟩
  · exact .inr h

theorem UA.form {w : World} {C k c : Nat} {u : Array Value} {s : Ls} (h : UA w C k c u s) : ∃ f kd ao n cp, u = uC 127 f true true kd (.slice ao n cp) := by
  rcases h with ⟨i, v, h1, h2, h3, h4⟩ | ⟨h1, f, h2⟩
  · obtain ⟨m, cap, cur, rfl, -⟩ := h4.form
    exact ⟨_, _, _, _, _, h3⟩
  · exact ⟨_, _, _, _, _, h2⟩

theorem much_ls {n1 n2 : Int} {c k : Nat} {s : Ls} (hb : Bnd n1 n2 c) (hf : s.Fine k c) (t : Cs) (h1 : t.n1 = n1) (h2 : t.n2 = n2) : t.much (saH k s) = s.mu k c := by
  obtain ⟨b1, b2, b3, b4, b5⟩ := hb
  obtain ⟨f1, f2, f3, f4⟩ := hf
  have hsz : sz (mgr s.f s.S) = 3 * (s.S - s.f) := by
    have := sz_mgr s.f (s.S - s.f)
    rw [show s.f + (s.S - s.f) = s.S by omega] at this
    exact this
  rw [Bool.eq_iff_iff, mu_iff]
  by_cases hk : s.S < k
  · have hsi : Hs.size (saH k s) = 3 := by
      unfold Hs.size saH
      simp only [mgr_cons hk]
      rfl
    unfold Cs.much Cs.fits
    rw [h1, h2, hsi]
    simp only [saH, mgr_len, hsz]
    simp only [Bool.and_eq_true, Bool.not_eq_true', Bool.or_eq_false_iff, Bool.and_eq_false_iff, decide_eq_true_iff, decide_eq_false_iff_not]
    omega
  · unfold Cs.much
    simp only [saH, mgr_len]
    rw [decide_eq_false (by omega : ¬ 0 < k - s.S)]
    simp
    omega

theorem again_ls {n1 n2 : Int} {c k : Nat} {s : Ls} (hb : Bnd n1 n2 c) (hf : s.Fine k c) (hk : k < 20) (t : Cs) (ht : t = { taC n1 n2 s with force := s.fo || s.mu k c }) : t.again (saH k s) = (taC n1 n2 (s.ag k c), (match s.oa with | some i => (i : Int) | none => (saH k s).last), s.oa.map mg) ∧ saH k (s.ag k c) = saH k s := by
  have hmu := much_ls hb hf t (by rw [ht]; rfl) (by rw [ht]; rfl)
  obtain ⟨f1, f2, f3, f4⟩ := hf
  have hl : (saH k s).sent.length = s.S - s.f := mgr_len _ _
  have hpl : t.pl = s.P - s.f := by rw [ht]; rfl
  have hget : ∀ i, i < s.S - s.f → (saH k s).sent[i]? = some (mg (s.f + i)) := fun i hi => by
    rw [List.getElem?_eq_getElem (by rw [hl]; exact hi)]
    exact congrArg some (mgr_get s.f s.S i (by rw [mgr_len]; exact hi))
  refine ⟨?_, ?_⟩
  · unfold Cs.again Ls.ag Ls.oa
    rw [hl, hpl, hmu]
    by_cases hp : s.P < s.S
    · rw [if_pos (by omega), if_pos hp, if_pos hp, hget _ (by omega)]
      refine trip3 ?_ ?_ ?_
      · rw [ht]
        simp only [taC, Cs.mk.injEq, and_true, true_and]
        omega
      · simp only [saH]
        omega
      · simp only [Option.map_some]
        rw [show s.f + (s.P - s.f) = s.P by omega]
    · rw [if_neg (by omega), if_neg hp, if_neg hp]
      by_cases hf : s.f < s.S
      · rw [if_pos (by omega), if_pos hf, if_pos hf, hget _ (by omega)]
        refine trip3 ?_ ?_ ?_
        · rw [ht]
          simp only [taC, Cs.mk.injEq, and_true, true_and]
          omega
        · simp only [saH]
          omega
        · rfl
      · rw [if_neg (by omega), if_neg hf, if_neg hf]
        refine trip3 ?_ rfl rfl
        rw [ht]
        simp only [taC, Cs.mk.injEq, and_true, true_and]
        omega
  · unfold Ls.ag saH
    split <;> rfl

theorem a_next (p hb C k c : Nat) (n1 n2 : Int) (T : Nat → Prop) (s : Ls) (w : World) (h : CycIn w p hb C T (taC n1 n2 s) (saH k s)) (hf : s.Fine k c) (hbn : Bnd n1 n2 c) (hk : k < 20) (hC : C ≤ w.heap.size) :
    Calls Try.prog 14 #[.pointer (some ⟨p, 0, none⟩)] w fun e w' => ∃ u T1, e = .returned (.agg u) ∧ UA w' C k c u s ∧ CycIn w' p hb C T1 (taC n1 n2 (s.sent k c)) (saH k (s.sent k c)) ∧ Foot (fun g => g = p ∨ T g) (fun g => g = p ∨ T1 g) w w' := by
  have hmu := much_ls hbn hf (taC n1 n2 s) rfl rfl
  have hmu2 := much_ls hbn hf ({ taC n1 n2 s with force := true } : Cs) rfl rfl
  have hoa : ∀ i, s.oa = some i → i < 20 := fun i hi => by
    have := hf.PS
    have := hf.Sk
    unfold Ls.oa at hi
    split at hi
    · cases hi; omega
    · split at hi
      · cases hi; omega
      · cases hi
  by_cases h1 : (s.fo || s.mu k c) = true
  · obtain ⟨e1, e2⟩ := again_ls hbn hf hk ({ taC n1 n2 s with force := true } : Cs) (by rw [h1])
    refine (next_force p hb C T (taC n1 n2 s) _ (saH k s) w h rfl (by rw [hmu]; simpa [taC] using h1) hC).mono ?_
    rintro e w' ⟨v, rfl, hi, hin, hF⟩
    rw [e1] at hi hin ⊢
    have es : s.sent k c = s.ag k c := by unfold Ls.sent; rw [if_pos h1]
    have eo : s.out k c = s.oa := by unfold Ls.out; rw [if_pos h1]
    rw [es, e2]
    refine ⟨_, T, rfl, ?_, hin, hF⟩
    unfold UA
    rw [eo]
    cases hoi : s.oa with
    | none =>
      rw [hoi] at hi
      obtain rfl : v = .slice none 0 0 := hi
      exact .inr ⟨rfl, _, rfl⟩
    | some i =>
      rw [hoi] at hi
      exact .inl ⟨i, v, rfl, hoa i hoi, rfl, HMsg.lower hi hC⟩
  · have hc' : s.fo = false ∧ s.mu k c = false := by simpa using h1
    by_cases h2 : s.S < k
    · have es : s.sent k c = { s with S := s.S + 1 } := by unfold Ls.sent; rw [if_neg h1, if_pos h2]
      have eo : s.out k c = some s.S := by unfold Ls.out; rw [if_neg h1, if_pos h2]
      have hl : (saH k s).sent.length = s.S - s.f := mgr_len _ _
      refine (next_send p hb C T (taC n1 n2 s) (saH k s) (mg s.S) (mgr (s.S + 1) k) w h hc'.1 (by rw [hmu]; exact hc'.2) (mgr_cons h2) (by rw [hl]; omega) hC).mono ?_
      rintro e w' ⟨v, T1, rfl, hm, hin, hF⟩
      have hfP := hf.fP
      have hPS := hf.PS
      have e1 : (((saH k s).first : Int) + ((saH k s).sent.length : Nat)) % 128 = s.S := by rw [hl]; simp only [saH]; omega
      have e3 : saH k (s.sent k c) = { saH k s with sent := (saH k s).sent ++ [mg s.S], next := mgr (s.S + 1) k } := by
        rw [es]
        unfold saH
        simp only
        rw [mgr_snoc (by omega)]
      have e2 : taC n1 n2 (s.sent k c) = taC n1 n2 s := by rw [es]; rfl
      rw [e1, e2, e3]
      exact ⟨_, T1, rfl, .inl ⟨s.S, v, eo, by omega, rfl, hm.lower hC⟩, hin, hF⟩
    · have es : s.sent k c = s.ag k c := by unfold Ls.sent; rw [if_neg h1, if_neg h2]
      have eo : s.out k c = s.oa := by unfold Ls.out; rw [if_neg h1, if_neg h2]
      obtain ⟨e1, e2⟩ := again_ls hbn hf hk (taC n1 n2 s) (by simp only [taC, hc'.1, hc'.2]; rfl)
      refine (next_else p hb C T (taC n1 n2 s) (saH k s) w h hc'.1 (by rw [hmu]; exact hc'.2) (.inl (mgr_nil (by omega))) hC).mono ?_
      rintro e w' ⟨v, rfl, hi, hin, hF⟩
      rw [e1] at hi hin ⊢
      rw [es, e2]
      refine ⟨_, T, rfl, ?_, hin, hF⟩
      unfold UA
      rw [eo]
      cases hoi : s.oa with
      | none =>
        rw [hoi] at hi
        obtain rfl : v = .slice none 0 0 := hi
        exact .inr ⟨rfl, _, rfl⟩
      | some i =>
        rw [hoi] at hi
        exact .inl ⟨i, v, rfl, hoa i hoi, rfl, HMsg.lower hi hC⟩

theorem b_next (p hb C : Nat) (n1 n2 : Int) (T : Nat → Prop) (s : Ls) (w : World) (h : CycIn w p hb C T (tbC n1 n2 s) sb0) (hC : C ≤ w.heap.size) :
    Calls Try.prog 14 #[.pointer (some ⟨p, 0, none⟩)] w fun e w' => e = .returned (.agg (UB s)) ∧ CycIn w' p hb C T (tbC n1 n2 s) sb0 ∧ Foot (fun g => g = p ∨ T g) (fun g => g = p ∨ T g) w w' := by
  refine (next_else p hb C T (tbC n1 n2 s) sb0 w h rfl rfl (.inl rfl) hC).mono ?_
  rintro e w' ⟨v, rfl, hi, hin, hF⟩
  obtain rfl : v = .slice none 0 0 := hi
  exact ⟨rfl, hin, hF⟩

theorem b_answer (p hb C : Nat) (n1 n2 : Int) (T : Nat → Prop) (s : Ls) (f kd : Int) (x : Value) (w : World) (h : CycIn w p hb C T (tbC n1 n2 s) sb0) :
    Calls Try.prog 16 #[.pointer (some ⟨p, 0, none⟩), .agg (uC 127 f true true kd x)] w fun e w' => e = .returned (.tuple #[.int .i64 0, .int .i64 0]) ∧ ∃ T1, CycIn w' p hb C T1 (tbC n1 n2 s) sb0 ∧ Foot (fun g => g = p ∨ T g) (fun g => g = p ∨ T1 g) w w' := by
  refine (answer_ok p hb C T (tbC n1 n2 s) sb0 127 f kd 0 true true false x 0 w h (by omega) (by decide) (by decide)).mono ?_
  rintro e w' ⟨rfl, T1, hin, hF⟩
  exact ⟨rfl, T1, hin, hF⟩

/-- What b is told of a unit of a's, and what is then. -/
theorem b_take (p hb C k c : Nat) (n1 n2 : Int) (T : Nat → Prop) (s o : Ls) (ra : Bool) (u : Array Value) (w : World) (h : CycIn w p hb C T (tbC n1 n2 s) sb0) (hu : UA w C k c u o) (ho : ∀ i, o.out k c = some i → i < k) (hg : s.g < 20) :
    Calls Try.prog 18 #[.pointer (some ⟨p, 0, none⟩), .agg u] w fun e w' => ∃ (v : Value) (ok : Bool), e = .returned (.tuple #[v, .bool ok, .int .i64 0]) ∧ (ok = true → s.g < k ∧ ∃ m c, v = .slice m 3 c ∧ ∃ g off, m = some ⟨g, off, none⟩ ∧ w'.cell? ⟨g, off, none⟩ = some (.int .u8 s.g)) ∧
      (s.step k c true ra o).g = (if ok then s.g + 1 else s.g) ∧ CycIn w' p hb C T (tbC n1 n2 (s.step k c true ra o)) sb0 ∧ Foot (fun g => g = p ∨ T g) (fun g => g = p ∨ T g) w w' := by
  by_cases hh : o.out k c = some s.g
  · rcases hu with ⟨i, v, h1, h2, rfl, h4⟩ | ⟨h1, -⟩
    · rw [h1, Option.some.injEq] at hh
      subst hh
      obtain ⟨m, cap, cur, rfl, hcur, hBm, hmc, hrm⟩ := h4.form
      have hgk := ho _ h1
      have h5 := h.at_.not5 m cur hcur
      refine (take_yes p hb C T (tbC n1 n2 s) sb0 127 s.g 0 true true false (some ⟨m, 0, none⟩) (mg s.g).length cap (mg s.g) w h (by simp only [tbC]; omega) rfl (by simp [mg]) (fun e => by cases e) hrm (fun ad e _ e2 => h5 (by cases e; exact .inl e2))).mono ?_
      rintro e w' ⟨vo, vc, rfl, hr, hin, hF⟩
      have hs : (s.step k c true ra o).g = s.g + 1 := by
        unfold Ls.step
        simp only [h1, true_and, if_true]
      refine ⟨_, true, rfl, fun _ => ⟨hgk, vo, vc, rfl, ?_⟩, hs, ?_, hF⟩
      · obtain ⟨g, off, e, hc⟩ := hr 0 _ rfl
        exact ⟨g, off, e, by simpa using hc⟩
      · have e2 : tbC n1 n2 (s.step k c true ra o) = { tbC n1 n2 s with last := ((s.g : Nat) : Int) } := by
          unfold tbC
          rw [hs]
          simp only [Cs.mk.injEq, and_true, true_and]
          omega
        rw [e2]
        exact hin
    · rw [h1] at hh
      cases hh
  · have hs : (s.step k c true ra o).g = s.g := by
      unfold Ls.step
      simp only [true_and]
      rw [if_neg hh]
    have e2 : tbC n1 n2 (s.step k c true ra o) = tbC n1 n2 s := by
      unfold tbC
      rw [hs]
    obtain ⟨f, kd, ao, n, cp, hform, hn⟩ : ∃ f kd ao n cp, u = uC 127 f true true kd (.slice ao n cp) ∧ (kd ≠ 2 ∨ f ≠ ((tbC n1 n2 s).last + 1) % 128) := by
      rcases hu with ⟨i, v, h1, h2, rfl, h4⟩ | ⟨h1, f, rfl⟩
      · obtain ⟨m, cap, cur, rfl, -⟩ := h4.form
        refine ⟨_, _, _, _, _, rfl, .inr fun e => hh ?_⟩
        rw [h1]
        congr 1
        simp only [tbC] at e
        omega
      · exact ⟨f, 0, none, 0, 0, rfl, .inl (by decide)⟩
    subst hform
    refine (take_no p hb C T (tbC n1 n2 s) sb0 127 f kd 0 true true false (.slice ao n cp) w h hn).mono ?_
    rintro e w' ⟨rfl, hB⟩
    refine ⟨_, false, rfl, fun e => absurd e (by decide), hs, ?_, Foot.of_below hB⟩
    rw [e2]
    exact h.below hB

theorem b_none (k c : Nat) (n1 n2 : Int) (s o : Ls) (ra : Bool) : tbC n1 n2 (s.step k c false ra o) = tbC n1 n2 s ∧ (s.step k c false ra o).g = s.g := by
  unfold tbC Ls.step
  simp

theorem a_none (k c : Nat) (n1 n2 : Int) (s o : Ls) (rb : Bool) : taC n1 n2 (s.step k c rb false o) = taC n1 n2 (s.sent k c) ∧ saH k (s.step k c rb false o) = saH k (s.sent k c) := by
  have : (s.sent k c).f = s.f := by
    unfold Ls.sent Ls.ag
    repeat' split
    all_goals rfl
  unfold taC saH Ls.step
  simp [this]

/-- What a is told of a unit of b's, and what is then. -/
theorem a_answer (p hb C k c : Nat) (n1 n2 : Int) (T : Nat → Prop) (s o : Ls) (rb : Bool) (w : World) (h : CycIn w p hb C T (taC n1 n2 (s.sent k c)) (saH k (s.sent k c))) (hf : s.Fine k c) (hk : k < 20) (h1 : s.f ≤ o.g) (h2 : o.g ≤ s.S) :
    Calls Try.prog 16 #[.pointer (some ⟨p, 0, none⟩), .agg (UB o)] w fun e w' => e = .returned (.tuple #[.int .i64 ((o.g - s.f : Nat) : Int), .int .i64 0]) ∧ ∃ T1, CycIn w' p hb C T1 (taC n1 n2 (s.step k c rb true o)) (saH k (s.step k c rb true o)) ∧ Foot (fun g => g = p ∨ T g) (fun g => g = p ∨ T1 g) w w' := by
  obtain ⟨g1, g2, g3, g4, g5, g6, g7⟩ := sent_S hf
  obtain ⟨fP, PS, Sk, cap⟩ := hf
  have hSf : (saH k (s.sent k c)).first = s.f := g6
  have hSl : (saH k (s.sent k c)).sent = mgr s.f (s.sent k c).S := by show mgr (s.sent k c).f _ = _; rw [g6]
  have hkn : (saH k (s.sent k c)).knows (((o.g : Int) + 127) % 128) = true := by
    unfold Hs.knows
    rw [decide_eq_true_iff, hSf, hSl, mgr_len]
    omega
  have hup : (saH k (s.sent k c)).upTo (((o.g : Int) + 127) % 128) = o.g - s.f := by
    unfold Hs.upTo
    rw [hSf]
    omega
  have hfr : (saH k (s.sent k c)).free (((o.g : Int) + 127) % 128) = saH k (s.step k c rb true o) := by
    unfold Hs.free
    rw [hup, hSl, mgr_drop, show s.f + (o.g - s.f) = o.g by omega]
    unfold saH Ls.step
    simp only [Hs.mk.injEq, true_and, and_true, if_true]
    omega
  refine (answer_ok p hb C T _ _ (((o.g : Int) + 127) % 128) 127 0 0 true true false (.slice none 0 0) (o.g - s.f) w h (by omega) hkn hup.symm).mono ?_
  rintro e w' ⟨rfl, T1, hin, hF⟩
  rw [hfr] at hin
  refine ⟨rfl, T1, ?_, hF⟩
  have e2 : ({ taC n1 n2 (s.sent k c) with b0 := false, b1 := (taC n1 n2 (s.sent k c)).b0, pl := (taC n1 n2 (s.sent k c)).pl - (o.g - s.f) } : Cs) = taC n1 n2 (s.step k c rb true o) := by
    unfold taC Ls.step
    simp only [Cs.mk.injEq, true_and, and_true, if_true]
    omega
  rw [← e2]
  exact hin
end Go.Proofs.Ytmnhciildlmjcaa.Tape
