/- WayLoses' two ways in memory: what each call makes of them. -/
import Derived.Test.YtmjogdhfndnbaaaWLose6
import Derived.Test.YtmjogdhfndnbaaaWay5
namespace Go.Proofs.Ytmjogdhfndnbaaa.Tape
open Go.ChangeShapes Go.WideShapes Go.ChangeAt Go.RowKit
set_option linter.unusedVariables false

/-- The two ways in memory. -/
structure WP (w0 w : World) (C pa hba pb hbb : Nat) (Ta Tb : Nat → Prop) (xa : Wt) (sa : Hs) (xb : Wt) : Prop where
  a : WayIn w pa hba C Ta xa sa
  b : WayIn w pb hbb C Tb xb sbW
  ab : ∀ g, (g = pa ∨ Ta g) → (g = pb ∨ Tb g) → False
  low : Below C w0 w
  le : C ≤ w0.heap.size

/-- Messages and units stay as they are. -/
def K2 (w w' : World) : Prop := ∀ (g : Nat) cur ty, w.heap[g]? = some (.cells cur ty (0, 0)) → (ty = 5 ∨ ty = 36) → w'.heap[g]? = w.heap[g]?

theorem K2.of_below {w w' : World} (h : Below w.heap.size w w') : K2 w w' := fun g cur ty hg _ => h.block g (heap_lt hg)
theorem K2.trans {w w1 w2 : World} (h : K2 w w1) (k : K2 w1 w2) : K2 w w2 := fun g cur ty hg ht => by
  have e := h g cur ty hg ht
  exact (k g cur ty (e.trans hg) ht).trans e
theorem K2.of_foot {w w' : World} {p hb B : Nat} {T T' : Nat → Prop} {x : Wt} {s : Hs} (h : WayIn w p hb B T x s) (hF : Foot (fun g => g = p ∨ T g) (fun g => g = p ∨ T' g) w w') : K2 w w' := fun g cur ty hg ht => by
  refine hF.block g (heap_lt hg) ?_
  rcases ht with rfl | rfl
  · exact h.not5 g cur hg
  · exact h.notU g cur hg
theorem K2.info {w w' : World} {B : Nat} {v : Value} {i : Option (List Int)} (h : K2 w w') (hi : InfoAt w B v i) : InfoAt w' B v i := hi.keep fun g cur hg => h g cur 5 hg (.inl rfl)
theorem K2.unit {w w' : World} {g : Nat} {cur : Array Value} (h : K2 w w') (hg : w.heap[g]? = some (.cells cur 36 (0, 0))) : w'.heap[g]? = some (.cells cur 36 (0, 0)) := (h g cur 36 hg (.inr rfl)).trans hg

section
variable {w0 w w' : World} {C pa hba pb hbb : Nat} {Ta Tb : Nat → Prop} {xa xb : Wt} {sa : Hs}

theorem WP.size (h : WP w0 w C pa hba pb hbb Ta Tb xa sa xb) : C ≤ w.heap.size := Nat.le_trans h.le h.low.size
theorem WP.below (h : WP w0 w C pa hba pb hbb Ta Tb xa sa xb) (hb : Below w.heap.size w w') : WP w0 w' C pa hba pb hbb Ta Tb xa sa xb :=
  ⟨h.a.below hb, h.b.below hb, h.ab, h.low.trans (below_le hb h.size), h.le⟩
theorem WP.stepA {Ta' : Nat → Prop} {xa' : Wt} {sa' : Hs} (h : WP w0 w C pa hba pb hbb Ta Tb xa sa xb) (ha : WayIn w' pa hba C Ta' xa' sa') (hF : Foot (fun g => g = pa ∨ Ta g) (fun g => g = pa ∨ Ta' g) w w') : WP w0 w' C pa hba pb hbb Ta' Tb xa' sa' xb := by
  refine ⟨ha, h.b.other hF (fun g hg hg' => h.ab g hg' hg) h.a.not5, fun g ga gb => ?_, h.low.trans (h.a.fbelow hF (Nat.le_refl _) h.size), h.le⟩
  rcases hF.moved g ga with e | e
  · exact h.ab g e gb
  · have := (h.b.low g gb).2
    omega
theorem WP.stepB {Tb' : Nat → Prop} {xb' : Wt} (h : WP w0 w C pa hba pb hbb Ta Tb xa sa xb) (hb : WayIn w' pb hbb C Tb' xb' sbW) (hF : Foot (fun g => g = pb ∨ Tb g) (fun g => g = pb ∨ Tb' g) w w') : WP w0 w' C pa hba pb hbb Ta Tb' xa sa xb' := by
  refine ⟨h.a.other hF (fun g hg hg' => h.ab g hg hg') h.b.not5, hb, fun g ga gb => ?_, h.low.trans (h.b.fbelow hF (Nat.le_refl _) h.size), h.le⟩
  rcases hF.moved g gb with e | e
  · exact h.ab g ga e
  · have := (h.a.low g ga).2
    omega
end

/-- The two ways have what the numbers say. -/
def WQ (w0 : World) (C pa hba pb hbb : Nat) (c : Bool) (s : LS) (w : World) : Prop := ∃ Ta Tb, WP w0 w C pa hba pb hbb Ta Tb (taW c s) (saW s) (tbW c s)

section
variable {w0 w w' : World} {C pa hba pb hbb k : Nat} {c : Bool} {s : LS}

theorem WQ.below (h : WQ w0 C pa hba pb hbb c s w) (hb : Below w.heap.size w w') : WQ w0 C pa hba pb hbb c s w' := by
  obtain ⟨Ta, Tb, h⟩ := h
  exact ⟨Ta, Tb, h.below hb⟩
theorem WQ.low (h : WQ w0 C pa hba pb hbb c s w) : Below C w0 w := by
  obtain ⟨Ta, Tb, h⟩ := h
  exact h.low

theorem q_holdA (h : WQ w0 C pa hba pb hbb c s w) : Calls Try.prog (fHold c) #[.pointer (some ⟨pa, 0, none⟩)] w fun e w' => e = .returned (.pointer (some ⟨hba, 0, none⟩)) ∧ w' = w := by
  obtain ⟨Ta, Tb, h⟩ := h
  have := whold_any _ _ _ _ _ _ _ h.a
  rw [taW_cyc] at this
  exact this

theorem q_put (h : WQ w0 C pa hba pb hbb c s w) (hf : s.Fine c k) (hk : s.P < k) (W : World) (hW : W = w.alloc (.cells #[.int .u8 s.P, .int .u8 1, .int .u8 2] 5)) :
    Calls Try.prog 10 #[.pointer (some ⟨hba, 0, none⟩), .slice (some ⟨w.heap.size, 0, none⟩) 3 3] W fun e w' => e = .returned (.int .i64 (if s.P < s.f + 16 then 0 else 3)) ∧ WQ w0 C pa hba pb hbb c (s.put k) w' := by
  obtain ⟨Ta, Tb, h⟩ := h
  have hB : Below w.heap.size w W := by rw [hW]; exact (Below.refl _ _).alloc (Nat.le_refl _) _
  have hr : Reads W (some ⟨w.heap.size, 0, none⟩) ((mg s.P).map (.int .u8)) := by rw [hW]; exact reads_lit w [(s.P : Int), 1, 2] (0, 0)
  have h' := h.below hB
  have hP : s.P < 40 := by have := hf.Pk; have := hf.k40; omega
  obtain ⟨e1, e2, e3⟩ := put_ls hf hk
  refine (put_any hba C Ta (saW s) (some ⟨w.heap.size, 0, none⟩) 3 3 (mg s.P) W h'.a.hold rfl (by omega) hr (by intro y hy; simp [mg] at hy; omega) h'.size).mono ?_
  rintro e w' ⟨rfl, T', hat, hF⟩
  rw [e1] at hat
  obtain ⟨hin, hF'⟩ := h'.a.step hat hF
  have h2 := h'.stepA hin hF'
  refine ⟨by rw [e2], T', Tb, ?_⟩
  rw [e3]
  have eb : tbW c (s.put k) = tbW c s := by
    obtain ⟨-, -, -, p4, -, p6, p7, -, -⟩ := LS.put_parts k s
    unfold tbW
    rw [p4, p6, p7]
  rw [eb]
  exact h2

/-- The unit that a sends. -/
def uAw (c : Bool) (s : LS) (v : Value) : Array Value := uC 127 (s.num c) true (taW c s).fib (kd ((s.out c).map mg)) v
/-- .. and b. -/
def uBw (c : Bool) (s : LS) : Array Value := uC (((s.g : Int) + 127) % 128) 127 (tbW c s).bib true 0 (.slice none 0 0)

theorem q_nextA (h : WQ w0 C pa hba pb hbb c s w) (hf : s.Fine c k) :
    Calls Try.prog (fNext c) #[.pointer (some ⟨pa, 0, none⟩)] w fun e w' => ∃ v, e = .returned (.agg (uAw c s v)) ∧ InfoAt w' C v ((s.out c).map mg) ∧ WQ w0 C pa hba pb hbb c (s.snt c) w' := by
  obtain ⟨Ta, Tb, h⟩ := h
  have hn := wnext_any _ _ _ _ _ _ _ h.a h.size
  rw [taW_cyc, next_ls hf, (taW_bib c s).1, (taW_bib c s).2] at hn
  refine hn.mono ?_
  rintro e w' ⟨v, T', rfl, hi, hin, hF⟩
  refine ⟨v, rfl, hi.mono h.size, T', Tb, ?_⟩
  rw [tbW_snt]
  exact h.stepA hin hF

theorem q_nextB (h : WQ w0 C pa hba pb hbb c s w) :
    Calls Try.prog (fNext c) #[.pointer (some ⟨pb, 0, none⟩)] w fun e w' => e = .returned (.agg (uBw c s)) ∧ K2 w w' ∧ WQ w0 C pa hba pb hbb c s w' := by
  obtain ⟨Ta, Tb, h⟩ := h
  have hn := wnext_any _ _ _ _ _ _ _ h.b h.size
  rw [tbW_cyc, nextB_ls, tbW_fib, tbW_last] at hn
  refine hn.mono ?_
  rintro e w' ⟨v, T', rfl, hi, hin, hF⟩
  have hv : v = .slice none 0 0 := hi
  subst hv
  exact ⟨rfl, K2.of_foot h.b hF, Ta, T', h.stepB hin hF⟩

theorem q_ansB (h : WQ w0 C pa hba pb hbb c s w) (f kk : Int) (uf : Bool) (v : Value) :
    Calls Try.prog (fAns c) #[.pointer (some ⟨pb, 0, none⟩), .agg (uC 127 f true uf kk v)] w fun e w' => e = .returned (.tuple #[.int .i64 0, .int .i64 0]) ∧ K2 w w' ∧ WQ w0 C pa hba pb hbb c s w' := by
  obtain ⟨Ta, Tb, h⟩ := h
  have hn := wans_any _ _ _ _ _ _ 127 f kk 0 true uf false v _ h.b (by omega) (by omega)
  rw [tbW_cyc, ansB_ls] at hn
  refine hn.mono ?_
  rintro e w' ⟨rfl, T', hin, hF⟩
  exact ⟨rfl, K2.of_foot h.b hF, Ta, T', h.stepB hin hF⟩

theorem q_takeB (h : WQ w0 C pa hba pb hbb c (s.snt c) w) (hf : s.Fine c k) (v : Value) (hi : InfoAt w C v ((s.out c).map mg)) :
    Calls Try.prog (fTake c) #[.pointer (some ⟨pb, 0, none⟩), .agg (uAw c s v)] w fun e w' => ∃ vo n vc, e = .returned (.tuple #[.slice vo n vc, .bool ((s.snt c).tks c (s.out c)), .int .i64 0]) ∧
      ((s.snt c).tks c (s.out c) = true → n = 3 ∧ Reads w' vo ((mg s.g).map (.int .u8))) ∧ K2 w w' ∧ WQ w0 C pa hba pb hbb c ((s.snt c).tkn c (s.out c)) w' := by
  obtain ⟨Ta, Tb, h⟩ := h
  have hb : WayIn w pb hbb C Tb (tbW c s) sbW := by
    have := h.b
    rw [tbW_snt] at this
    exact this
  have hn := wtake_any _ _ _ _ _ _ _ 127 (s.num c) 0 true (taW c s).fib false v _ _ hb hi
  rw [tbW_cyc, takeB_ls hf] at hn
  refine hn.mono ?_
  rintro e w' ⟨vo, n, vc, rfl, hr, hin, hF⟩
  have h2 := h.stepB (xb' := tbW c ((s.snt c).tkn c (s.out c))) hin hF
  have hF2 := hF
  refine ⟨vo, n, vc, rfl, fun hok => ?_, K2.of_foot h.b hF, Ta, Tb, ?_⟩
  · obtain ⟨xs, hx, hn, hrd⟩ := hr hok
    have e := tks_some hok
    rw [(LS.snt_parts c s).2.1] at e
    rw [e] at hx
    simp only [Option.map_some, Option.some.injEq] at hx
    subst hx
    exact ⟨hn, hrd⟩
  · rw [(taW_tkn c (s.snt c) _).1, (taW_tkn c (s.snt c) _).2]
    exact h2

theorem q_ansA (h : WQ w0 C pa hba pb hbb c s w) (g0 B0 : Nat) (h1 : s.f ≤ g0) (h2 : g0 ≤ s.S) (h3 : s.f ≤ s.r) (h4 : s.r ≤ s.S) (h5 : s.S < 40) (bb : Bool) (hb : bb = if c then true else decide (B0 % 2 = 0)) :
    Calls Try.prog (fAns c) #[.pointer (some ⟨pa, 0, none⟩), .agg (uC (((g0 : Int) + 127) % 128) 127 bb true 0 (.slice none 0 0))] w fun e w' => (∃ r, e = .returned (.tuple #[.int .i64 r, .int .i64 0])) ∧ K2 w w' ∧ WQ w0 C pa hba pb hbb c (s.ans c g0 B0) w' := by
  obtain ⟨Ta, Tb, h⟩ := h
  have hn := wans_any _ _ _ _ _ _ (((g0 : Int) + 127) % 128) 127 0 0 bb true false (.slice none 0 0) _ h.a (by omega) (by omega)
  rw [taW_cyc, ansA_ls g0 B0 h1 h2 h3 h4 h5 bb hb] at hn
  refine hn.mono ?_
  rintro e w' ⟨rfl, T', hin, hF⟩
  refine ⟨⟨_, rfl⟩, K2.of_foot h.a hF, T', Tb, ?_⟩
  rw [(tbW_ans c s g0 B0).1]
  exact h.stepA hin hF

theorem q_takeA (h : WQ w0 C pa hba pb hbb c s w) (b : Int) (bb : Bool) :
    Calls Try.prog (fTake c) #[.pointer (some ⟨pa, 0, none⟩), .agg (uC b 127 bb true 0 (.slice none 0 0))] w fun e w' => (∃ vo n vc, e = .returned (.tuple #[.slice vo n vc, .bool false, .int .i64 0])) ∧ WQ w0 C pa hba pb hbb c s w' := by
  obtain ⟨Ta, Tb, h⟩ := h
  have hn := wtake_any _ _ _ C _ _ _ b 127 0 bb true false (.slice none 0 0) none _ h.a rfl
  rw [taW_cyc, show kd none = 0 from rfl, takeA_ls] at hn
  refine hn.mono ?_
  rintro e w' ⟨vo, n, vc, rfl, -, hin, hF⟩
  exact ⟨⟨vo, n, vc, rfl⟩, Ta, Tb, h.stepA hin hF⟩
end
end Go.Proofs.Ytmjogdhfndnbaaa.Tape
