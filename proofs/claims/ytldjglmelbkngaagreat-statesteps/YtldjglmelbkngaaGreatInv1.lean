/- What holds of every State that came of a new one: what its calls keep; no walk. -/
import Derived.Test.YtldjglmelbkngaaGreatState19
namespace Go.Proofs.YtldjglmelbkngaaGreat.Tape
open Go.ChangeShapes Go.WideShapes Go.ChangeAt Go.RowKit
set_option linter.unusedVariables false

/-! ### An Align -/
def AIv (A : Al) : Prop := (0 ≤ A.st ∧ A.st ≤ 3) ∧ (0 ≤ A.n ∧ A.n ≤ 3) ∧ (0 ≤ A.tries ∧ A.tries ≤ 5) ∧ (A.st = 3 → (A.hur = true → A.n = 0) ∧ A.tries ≤ 4)
theorem AIv.end_ {A : Al} (h2 : 0 ≤ A.n ∧ A.n ≤ 3) (h3 : 0 ≤ A.tries ∧ A.tries ≤ 5) : AIv A.end_ :=
  ⟨by show (0 : Int) ≤ 0 ∧ (0 : Int) ≤ 3; decide, h2, h3, fun e => absurd (show (0 : Int) = 3 from e) (by decide)⟩
theorem AIv.begin_ {A : Al} (h : AIv A) : AIv A.begin_ :=
  ⟨by show (0 : Int) ≤ 1 ∧ (1 : Int) ≤ 3; decide, h.2.1, by show (0 : Int) ≤ 0 ∧ (0 : Int) ≤ 5; decide, fun e => absurd (show (1 : Int) = 3 from e) (by decide)⟩
theorem AIv.prove {A : Al} (h : 0 ≤ A.tries ∧ A.tries ≤ 4) : AIv A.prove :=
  ⟨by show (0 : Int) ≤ 3 ∧ (3 : Int) ≤ 3; decide, by show (0 : Int) ≤ 0 ∧ (0 : Int) ≤ 3; decide, by show 0 ≤ A.tries ∧ A.tries ≤ 5; omega, fun _ => ⟨fun _ => rfl, h.2⟩⟩
theorem AIv.near {A : Al} (h : AIv A) : AIv A.near :=
  ⟨by show (0 : Int) ≤ 2 ∧ (2 : Int) ≤ 3; decide, h.2.1, h.2.2.1, fun e => absurd (show (2 : Int) = 3 from e) (by decide)⟩
theorem AIv.hears {A : Al} (h : AIv A) (s : Int) : AIv (A.hears s) := h
theorem AIv.quicken {A : Al} (h : AIv A) (b : Bool) : AIv (A.quicken b) ∧ (A.quicken b).st = A.st := by
  unfold Al.quicken
  split
  · rename_i hc
    exact ⟨AIv.prove ⟨h.2.2.1.1, (h.2.2.2 hc.1).2⟩, hc.1.symm⟩
  · exact ⟨h, rfl⟩
theorem AIv.hurry {A : Al} (h : AIv A) (b : Bool) : AIv (A.hurry b) ∧ (A.hurry b).st = A.st := AIv.quicken (A := { A with own := b }) h _
theorem AIv.heard {A : Al} (h : AIv A) (s : Int) : AIv (A.heard s) ∧ (A.st ≠ 0 → (A.heard s).st ≠ 0) := by
  unfold Al.heard
  repeat' split
  · exact ⟨h, id⟩
  · exact ⟨AIv.near (h.hears s), fun _ => by show (2 : Int) ≠ 0; decide⟩
  · exact ⟨h.hears s, id⟩
  · exact ⟨AIv.prove (A := { A.hears s with tries := 0 }) (by show (0 : Int) ≤ 0 ∧ (0 : Int) ≤ 4; decide), fun _ => by show (3 : Int) ≠ 0; decide⟩
  · exact ⟨h.hears s, id⟩
  · exact ⟨AIv.near (h.hears s), fun _ => by show (2 : Int) ≠ 0; decide⟩
  · have := AIv.quicken (h.hears s) A.hurries
    exact ⟨this.1, fun e => by rw [this.2]; exact e⟩
theorem AIv.unit {A : Al} (h : AIv A) (wr : Bool) : (0 ≤ (A.unit wr).n ∧ (A.unit wr).n ≤ 3) ∧ (0 ≤ (A.unit wr).tries ∧ (A.unit wr).tries ≤ 5) ∧ (A.unitWhy wr = 0 → AIv (A.unit wr) ∧ (A.st ≠ 0 → (A.unit wr).st ≠ 0)) ∧ (A.unitWhy wr = 0 ∨ A.unitWhy wr = 5) := by
  obtain ⟨h1, h2, h3, h4⟩ := h
  have hm : A.most = 1 ∨ A.most = 4 := by unfold Al.most; split <;> simp
  have hd : (0 : Int) ≤ (if wr = true then 1 else 0) ∧ (if wr = true then (1 : Int) else 0) ≤ 1 := by cases wr <;> decide
  have hmh : A.most = 1 → A.hur = true := fun e => by
    unfold Al.most at e
    split at e
    · assumption
    · omega
  unfold Al.unit Al.unitWhy
  generalize (if wr = true then (1 : Int) else 0) = d at *
  by_cases hs : A.st = 3
  · obtain ⟨h5, h6⟩ := h4 hs
    rw [if_neg (by omega)]
    by_cases hn : A.n + d ≠ A.most
    · rw [if_pos hn, if_neg (fun e => hn e.2.1)]
      have hn3 : A.n + d ≤ 3 ∧ (A.hur = true → A.n + d = 0) := by
        constructor
        · rcases hm with hm | hm
          · have := h5 (hmh hm); omega
          · omega
        · intro hh
          have := h5 hh
          have : A.most = 1 := by unfold Al.most; rw [if_pos hh]
          omega
      refine ⟨⟨by show 0 ≤ A.n + d; omega, hn3.1⟩, h3, fun _ => ⟨⟨h1, ⟨by show 0 ≤ A.n + d; omega, hn3.1⟩, h3, fun _ => ⟨hn3.2, h6⟩⟩, id⟩, .inl rfl⟩
    · rw [if_neg hn]
      by_cases ht : A.tries + 1 ≥ 5
      · rw [if_pos ht, if_pos ⟨hs, Classical.not_not.1 hn, ht⟩]
        exact ⟨by show (0 : Int) ≤ 0 ∧ (0 : Int) ≤ 3; decide, by show 0 ≤ A.tries + 1 ∧ A.tries + 1 ≤ 5; omega, fun e => absurd e (by decide), .inr rfl⟩
      · rw [if_neg ht, if_neg (fun e => ht e.2.2)]
        have hp : AIv (Al.prove { A with n := 0, tries := A.tries + 1 }) := AIv.prove (by show 0 ≤ A.tries + 1 ∧ A.tries + 1 ≤ 4; omega)
        exact ⟨hp.2.1, hp.2.2.1, fun _ => ⟨hp, fun _ => by show (3 : Int) ≠ 0; decide⟩, .inl rfl⟩
  · rw [if_pos hs, if_neg (fun e => hs e.1)]
    exact ⟨h2, h3, fun _ => ⟨⟨h1, h2, h3, h4⟩, id⟩, .inl rfl⟩
theorem AIv.out {A : Al} (h : AIv A) (k : Int) : AIv (A.out k) ∧ (A.proved k = false → (A.out k).st = A.st) ∧ (A.proved k = true → A.outWhy k = 0) ∧ (A.outWhy k = 0 ∨ A.outWhy k = 7) := by
  unfold Al.out Al.proved Al.outWhy
  refine ⟨?_, ?_, ?_, ?_⟩
  · split
    · exact AIv.end_ h.2.1 h.2.2.1
    · exact h
  · intro e
    rw [decide_eq_false_iff_not] at e
    rw [if_neg e]
  · intro e
    rw [decide_eq_true_iff] at e
    rw [if_neg (by omega)]
  · split
    · exact .inr rfl
    · exact .inl rfl
theorem AIv.xs {A : Al} (h : AIv A) (xs : List Int) : AIv { A with xs := xs } := h

/-! ### What is told -/
abbrev Td := Int × Int × Value
def tdL (ts : List Td) : List (Array Value) := ts.map fun t => tdC t.1 t.2.1 t.2.2
/-- How many of a kind. -/
def cntK (k : Int) : List Td → Nat
  | [] => 0
  | t :: ts => (if t.1 = k then 1 else 0) + cntK k ts
theorem cntK_app (k : Int) (a b : List Td) : cntK k (a ++ b) = cntK k a + cntK k b := by
  induction a with
  | nil => simp [cntK]
  | cons t a ih => simp only [List.cons_append, cntK, ih]; omega
/-- Every reason is one. -/
def Wy (ts : List Td) : Prop := ∀ t ∈ ts, t.1 = 2 → 1 ≤ t.2.1 ∧ t.2.1 ≤ 10
theorem Wy.app {a b : List Td} (ha : Wy a) (hb : Wy b) : Wy (a ++ b) := fun t ht => (List.mem_append.1 ht).elim (ha t) (hb t)
theorem Wy.nil : Wy [] := fun t ht => by simp at ht
theorem Wy.one {k y : Int} {v : Value} (h : k = 2 → 1 ≤ y ∧ y ≤ 10) : Wy [(k, y, v)] := fun t ht => by
  simp only [List.mem_singleton] at ht
  subst ht
  exact h
/-- What came to what is told, and to the count of its ends. -/
structure Grew (x x' : St) (ts : List Td) : Prop where
  told : x'.told = x.told ++ tdL ts
  fl : x'.fl = x.fl + (cntK 2 ts : Int)
  wy : Wy ts
theorem Grew.no {x x' : St} (h1 : x'.told = x.told) (h2 : x'.fl = x.fl) : Grew x x' [] := ⟨by rw [h1]; simp [tdL], by rw [h2]; simp [cntK], Wy.nil⟩
theorem Grew.refl (x : St) : Grew x x [] := Grew.no rfl rfl
theorem Grew.trans {x y z : St} {a b : List Td} (h : Grew x y a) (h' : Grew y z b) : Grew x z (a ++ b) :=
  ⟨by rw [h'.told, h.told]; simp [tdL, List.append_assoc], by rw [h'.fl, h.fl, cntK_app]; omega, h.wy.app h'.wy⟩
theorem Grew.then {x y z : St} {a : List Td} (h : Grew x y a) (h1 : z.told = y.told) (h2 : z.fl = y.fl) : Grew x z a := ⟨h1.trans h.told, h2.trans h.fl, h.wy⟩
theorem grew_tell (x : St) (k y : Int) (v : Value) (hk : k ≠ 2) : Grew x (x.tell k y v) [(k, y, v)] := ⟨rfl, by simp [cntK, hk, St.tell], Wy.one fun e => absurd e hk⟩

/-! ### A State -/
structure Iv (x : St) : Prop where
  s : 0 ≤ x.s ∧ x.s ≤ 5
  lk : x.lk.n ≤ 63 ∧ x.lk.s ≤ 255
  al : AIv x.A
  s0 : x.s = 0 → x.A.st = 0
  s1 : x.s = 1 → x.A.st ≠ 0
  s2 : x.s = 2 → x.own = false
  s3 : x.s = 3 → x.own = true
  s4 : x.s = 4 → x.own = false
  due : x.J.due = true → x.J.own = true
  hs : x.hs.most = 16 ∧ x.hs.oct = 600

theorem Iv.setC {x : St} (h : Iv x) (xs : List Int) : Iv (x.setC xs) := ⟨h.s, h.lk, h.al, h.s0, h.s1, h.s2, h.s3, h.s4, h.due, h.hs⟩
theorem Iv.setJ {x : St} (h : Iv x) {J : Ja} (hd : J.due = true → J.own = true) : Iv (x.setJ J) := ⟨h.s, h.lk, h.al, h.s0, h.s1, h.s2, h.s3, h.s4, hd, h.hs⟩
theorem Iv.setA {x : St} (h : Iv x) {A : Al} (hA : AIv A) (h0 : x.s = 0 → A.st = 0) (h1 : x.s = 1 → A.st ≠ 0) : Iv (x.setA A) := ⟨h.s, h.lk, hA, h0, h1, h.s2, h.s3, h.s4, h.due, h.hs⟩
theorem Iv.setW {x : St} (h : Iv x) (wt : Wt) {hs : Hs} (hh : hs.most = x.hs.most ∧ hs.oct = x.hs.oct) : Iv (x.setW wt hs) := ⟨h.s, h.lk, h.al, h.s0, h.s1, h.s2, h.s3, h.s4, h.due, ⟨hh.1.trans h.hs.1, hh.2.trans h.hs.2⟩⟩
theorem Iv.tell {x : St} (h : Iv x) (k y : Int) (v : Value) : Iv (x.tell k y v) := ⟨h.s, h.lk, h.al, h.s0, h.s1, h.s2, h.s3, h.s4, h.due, h.hs⟩
theorem Iv.took {x : St} (h : Iv x) : Iv x.took := ⟨h.s, h.lk, h.al, h.s0, h.s1, h.s2, h.s3, h.s4, h.due, h.hs⟩
theorem Iv.await {x : St} (h : Iv x) : Iv x.await := by
  unfold St.await
  split
  · exact h.setC _
  · exact h
theorem grew_await (x : St) : x.await.told = x.told ∧ x.await.fl = x.fl ∧ x.await.s = x.s := by unfold St.await; split <;> exact ⟨rfl, rfl, rfl⟩
theorem ja_clear (J : Ja) : J.clear.due = true → J.clear.own = true := fun e => absurd (show false = true from e) (by decide)
/-- A State that fails: what is asked of it. -/
structure Iw (x : St) : Prop where
  n : 0 ≤ x.A.n ∧ x.A.n ≤ 3
  tries : 0 ≤ x.A.tries ∧ x.A.tries ≤ 5
  hs : x.hs.most = 16 ∧ x.hs.oct = 600
theorem Iv.w {x : St} (h : Iv x) : Iw x := ⟨h.al.2.1, h.al.2.2.1, h.hs⟩
theorem Iw.down {x : St} (h : Iw x) (y : Int) : Iv (x.down y) :=
  ⟨by show (0 : Int) ≤ 0 ∧ (0 : Int) ≤ 5; decide, by show 0 ≤ 63 ∧ 0 ≤ 255; decide, AIv.end_ h.n h.tries, fun _ => rfl, fun e => absurd (show (0 : Int) = 1 from e) (by decide), fun e => absurd (show (0 : Int) = 2 from e) (by decide), fun e => absurd (show (0 : Int) = 3 from e) (by decide), fun e => absurd (show (0 : Int) = 4 from e) (by decide), fun e => absurd (show false = true from e) (by decide), h.hs⟩
theorem grew_down (x : St) (y : Int) (hy : 1 ≤ y ∧ y ≤ 10) : Grew x (x.down y) [(2, y, nilV)] := ⟨rfl, by simp [cntK, St.down, St.tell], Wy.one fun _ => hy⟩
theorem fail_down {x : St} (h : ¬ x.s = 0) (y : Int) : x.fail y = x.down y := by
  unfold St.fail
  rw [if_neg h]
theorem down_s (x : St) (y : Int) : (x.down y).s = 0 := rfl

/-- It goes on as it is, or it ends. -/
def Mt (x x' : St) : Prop := (x'.told = x.told ∧ x'.fl = x.fl ∧ (x.s = 0 → x'.s = 0) ∧ (x.s = 1 → x'.s = 1 ∨ x'.s = 2 ∨ x'.s = 3) ∧ (2 ≤ x.s → x'.s = x.s)) ∨ (x.s ≠ 0 ∧ x'.s = 0 ∧ ∃ y, (1 ≤ y ∧ y ≤ 10) ∧ Grew x x' [(2, y, nilV)])
theorem Mt.refl (x : St) : Mt x x := .inl ⟨rfl, rfl, id, .inl, fun _ => rfl⟩
theorem Mt.same {x x' : St} (h1 : x'.told = x.told) (h2 : x'.fl = x.fl) (h3 : x'.s = x.s) : Mt x x' := .inl ⟨h1, h2, fun e => h3.trans e, fun e => .inl (h3.trans e), fun _ => h3⟩
theorem Mt.trans {x y z : St} (h : Mt x y) (h' : Mt y z) (hy : 0 ≤ y.s) : Mt x z := by
  rcases h with ⟨t1, f1, a1, a2, a3⟩ | ⟨n1, s1, w, hw, g⟩
  · rcases h' with ⟨t2, f2, b1, b2, b3⟩ | ⟨n2, s2, w, hw, g⟩
    · refine .inl ⟨t2.trans t1, f2.trans f1, fun e => b1 (a1 e), fun e => ?_, fun e => ?_⟩
      · rcases a2 e with h | h | h
        · exact b2 h
        · exact .inr (.inl ((b3 (by omega)).trans h))
        · exact .inr (.inr ((b3 (by omega)).trans h))
      · have := a3 e
        exact (b3 (by omega)).trans this
    · exact .inr ⟨fun e => n2 (a1 e), s2, w, hw, (Grew.no t1 f1).trans g⟩
  · rcases h' with ⟨t2, f2, b1, -, -⟩ | ⟨n2, -⟩
    · exact .inr ⟨n1, b1 s1, w, hw, g.then t2 f2⟩
    · exact absurd s1 n2
theorem mt_fail (x : St) (y : Int) (hy : 1 ≤ y ∧ y ≤ 10) : Mt x (x.fail y) := by
  unfold St.fail
  split
  · exact Mt.refl x
  · rename_i h
    exact .inr ⟨h, rfl, y, hy, grew_down x y hy⟩
theorem Iv.fail {x : St} (h : Iv x) (y : Int) : Iv (x.fail y) := by
  unfold St.fail
  split
  · exact h
  · exact h.w.down y
theorem mt_failFor (x : St) (y : Int) (hy : y = 0 ∨ (1 ≤ y ∧ y ≤ 10)) : Mt x (x.failFor y) := by
  unfold St.failFor
  split
  · exact Mt.refl x
  · exact mt_fail x y (hy.resolve_left (by assumption))
theorem Iv.failFor {x : St} (h : Iv x) (y : Int) : Iv (x.failFor y) := by
  unfold St.failFor
  split
  · exact h
  · exact h.fail y
/-- A unit is counted. -/
theorem count_mt {x : St} (h : Iv x) (wr : Bool) : Iv (x.count wr) ∧ Mt x (x.count wr) ∧ (x.s = 1 → (x.count wr).s = 1 ∨ (x.count wr).s = 0) := by
  unfold St.count
  split
  · exact ⟨h, Mt.refl x, fun e => .inl e⟩
  · rename_i h0
    split
    · rename_i h1
      obtain ⟨u1, u2, u3, u4⟩ := AIv.unit h.al wr
      by_cases hw : x.A.unitWhy wr = 0
      · unfold St.failFor
        rw [if_pos hw]
        exact ⟨h.setA (u3 hw).1 (fun e => absurd e h0) (fun _ => (u3 hw).2 (h.s1 h1)), Mt.same rfl rfl rfl, fun _ => .inl h1⟩
      · have h5 := u4.resolve_left hw
        unfold St.failFor
        rw [if_neg hw, h5]
        have hf : (x.setA (x.A.unit wr)).fail 5 = (x.setA (x.A.unit wr)).down 5 := fail_down (x := x.setA (x.A.unit wr)) h0 5
        rw [hf]
        exact ⟨Iw.down (x := x.setA (x.A.unit wr)) ⟨u1, u2, h.hs⟩ 5, .inr ⟨h0, rfl, 5, by decide, (Grew.no (x := x) (x' := x.setA (x.A.unit wr)) rfl rfl).trans (grew_down _ 5 (by decide))⟩, fun _ => .inr rfl⟩
    · rename_i h1
      split
      · have hf : (x.lkU wr).fail 1 = (x.lkU wr).down 1 := fail_down (x := x.lkU wr) h0 1
        rw [hf]
        exact ⟨Iw.down (x := x.lkU wr) ⟨h.w.n, h.w.tries, h.hs⟩ 1, .inr ⟨h0, rfl, 1, by decide, (Grew.no (x := x) (x' := x.lkU wr) rfl rfl).trans (grew_down _ 1 (by decide))⟩, fun _ => .inr rfl⟩
      · rename_i hn
        have hs : (x.lk.unit wr).s ≤ 255 := by
          have hl := h.lk
          generalize x.lk = l at *
          obtain ⟨n, s⟩ := l
          simp only at hl
          unfold Lk.unit Lk.old Lk.new
          repeat' split
          all_goals (first | omega | (simp at * <;> omega))
        exact ⟨⟨h.s, ⟨by show (x.lk.unit wr).n ≤ 63; omega, hs⟩, h.al, h.s0, h.s1, h.s2, h.s3, h.s4, h.due, h.hs⟩, Mt.same rfl rfl rfl, fun e => absurd e h1⟩
/-- A timer ran out. -/
theorem ja_out {J : Ja} (h : J.due = true → J.own = true) (k : Int) : (J.out k).due = true → (J.out k).own = true := by
  unfold Ja.out
  split
  · rename_i hc
    exact fun _ => hc.2
  · exact h
theorem ranOut_mt {x : St} (h : Iv x) (k : Int) : Iv (x.ranOut k) ∧ Mt x (x.ranOut k) := by
  unfold St.ranOut
  split
  · exact ⟨h, Mt.refl x⟩
  · rename_i h0
    split
    · rename_i h1
      obtain ⟨a1, a2, a3, a4⟩ := AIv.out h.al k
      unfold St.ranAl
      cases hp : x.A.proved k
      · rw [if_neg (by decide)]
        have hI : Iv (x.setA (x.A.out k)) := h.setA a1 (fun e => absurd e h0) (fun e => by rw [a2 hp]; exact h.s1 h1)
        have hy : x.A.outWhy k = 0 ∨ (1 ≤ x.A.outWhy k ∧ x.A.outWhy k ≤ 10) := by omega
        exact ⟨hI.failFor _, (Mt.same (x := x) (x' := x.setA (x.A.out k)) rfl rfl rfl).trans (mt_failFor _ _ hy) h.s.1⟩
      · rw [if_pos rfl, a3 hp]
        have e : (x.setA (x.A.out k)).failFor 0 = x.setA (x.A.out k) := by unfold St.failFor; rw [if_pos rfl]
        rw [e]
        cases ho : x.own
        · rw [if_neg (by decide)]
          refine ⟨Iv.setC (x := { x.setA (x.A.out k) with s := 2 }) ⟨by show (0 : Int) ≤ 2 ∧ (2 : Int) ≤ 5; decide, h.lk, a1, fun e => absurd (show (2 : Int) = 0 from e) (by decide), fun e => absurd (show (2 : Int) = 1 from e) (by decide), fun _ => ho, fun e => absurd (show (2 : Int) = 3 from e) (by decide), fun e => absurd (show (2 : Int) = 4 from e) (by decide), h.due, h.hs⟩ _, .inl ⟨rfl, rfl, fun e => absurd e h0, fun _ => .inr (.inl rfl), fun e => by omega⟩⟩
        · rw [if_pos rfl]
          refine ⟨Iv.setC (x := { x.setA (x.A.out k) with s := 3 }) ⟨by show (0 : Int) ≤ 3 ∧ (3 : Int) ≤ 5; decide, h.lk, a1, fun e => absurd (show (3 : Int) = 0 from e) (by decide), fun e => absurd (show (3 : Int) = 1 from e) (by decide), fun e => absurd (show (3 : Int) = 2 from e) (by decide), fun _ => ho, fun e => absurd (show (3 : Int) = 4 from e) (by decide), h.due, h.hs⟩ _, .inl ⟨rfl, rfl, fun e => absurd e h0, fun _ => .inr (.inr rfl), fun e => by omega⟩⟩
    · split
      · exact ⟨h.fail 6, mt_fail x 6 (by decide)⟩
      · split
        · exact ⟨h.fail 2, mt_fail x 2 (by decide)⟩
        · have hI : Iv (x.setJ (x.J.out k)) := h.setJ (ja_out h.due k)
          have hy : x.J.why k = 0 ∨ (1 ≤ x.J.why k ∧ x.J.why k ≤ 10) := by unfold Ja.why; split <;> simp
          exact ⟨hI.failFor _, (Mt.same (x := x) (x' := x.setJ (x.J.out k)) rfl rfl rfl).trans (mt_failFor _ _ hy) h.s.1⟩
theorem ranAll_mt (l : List Nat) {x : St} (h : Iv x) : Iv (l.foldl (fun y k => y.ranOut (k : Nat)) x) ∧ Mt x (l.foldl (fun y k => y.ranOut (k : Nat)) x) := by
  induction l generalizing x with
  | nil => exact ⟨h, Mt.refl x⟩
  | cons k l ih =>
    obtain ⟨h1, m1⟩ := ranOut_mt h (k : Int)
    obtain ⟨h2, m2⟩ := ih h1
    exact ⟨h2, m1.trans m2 h1.s.1⟩
theorem tick_mt {x : St} (h : Iv x) : Iv x.tick ∧ Mt x x.tick := by
  obtain ⟨h1, m1⟩ := ranAll_mt (outs 0 x.A.xs) (h.setC (x.A.xs.map tk))
  exact ⟨h1, (Mt.same (x := x) (x' := x.setC (x.A.xs.map tk)) rfl rfl rfl).trans m1 h.s.1⟩
theorem tks_mt {x : St} (h : Iv x) (n : Nat) : Iv (x.tks n) ∧ Mt x (x.tks n) := by
  induction n with
  | zero => exact ⟨h, Mt.refl x⟩
  | succ n ih =>
    obtain ⟨h1, m1⟩ := ih
    obtain ⟨h2, m2⟩ := tick_mt h1
    exact ⟨h2, m1.trans m2 h1.s.1⟩
end Go.Proofs.YtldjglmelbkngaaGreat.Tape
