/- What holds of every State that came of a new one: an order, a unit that came, one that goes; no walk. -/
import Derived.Test.YtldjglmelbkngaaGreatInv1
namespace Go.Proofs.YtldjglmelbkngaaGreat.Tape
open Go.ChangeShapes Go.WideShapes Go.ChangeAt Go.RowKit
set_option linter.unusedVariables false

/-! ### An order -/
theorem Iv.halt {x : St} (h : Iv x) : Iv x.halt :=
  ⟨by show (0 : Int) ≤ 5 ∧ (5 : Int) ≤ 5; decide, h.lk, h.al, fun e => absurd (show (5 : Int) = 0 from e) (by decide), fun e => absurd (show (5 : Int) = 1 from e) (by decide), fun e => absurd (show (5 : Int) = 2 from e) (by decide), fun e => absurd (show (5 : Int) = 3 from e) (by decide), fun e => absurd (show (5 : Int) = 4 from e) (by decide), fun e => absurd (show false = true from e) (by decide), h.hs⟩
/-- It may go on, or not: nothing is told. -/
def Go5 (x x' : St) : Prop := x'.told = x.told ∧ x'.fl = x.fl ∧ (x'.s = x.s ∨ x.s = 5 ∧ x'.s = 4)
theorem goOn_iv {x : St} (h : Iv x) : Iv x.goOn ∧ Go5 x x.goOn := by
  unfold St.goOn
  split
  · exact ⟨h, rfl, rfl, .inl rfl⟩
  · rename_i hc
    have h5 : x.s = 5 := Classical.byContradiction fun e => hc (.inl e)
    have ho : x.own = false := by
      cases e : x.own with
      | false => rfl
      | true => exact absurd (Or.inr (show x.isOut = true from by unfold St.isOut; rw [e]; rfl)) hc
    have hI : Iv { x with s := 4 } := ⟨by show (0 : Int) ≤ 4 ∧ (4 : Int) ≤ 5; decide, h.lk, h.al, fun e => absurd (show (4 : Int) = 0 from e) (by decide), fun e => absurd (show (4 : Int) = 1 from e) (by decide), fun e => absurd (show (4 : Int) = 2 from e) (by decide), fun e => absurd (show (4 : Int) = 3 from e) (by decide), fun _ => ho, h.due, h.hs⟩
    obtain ⟨g1, g2, g3⟩ := grew_await { x with s := 4 }
    exact ⟨hI.await, g1, g2, .inr ⟨h5, g3⟩⟩
theorem Iv.held {x : St} (h : Iv x) (a b : Bool) : Iv { x with their := a, held := b } := ⟨h.s, h.lk, h.al, h.s0, h.s1, h.s2, h.s3, h.s4, h.due, h.hs⟩
/-- What an order does: nothing is told, but of one that stops it. -/
def OrdR (x x' : St) : Prop := (x'.told = x.told ∧ x'.fl = x.fl ∧ ((x.s = 0 ∧ (x'.s = 0 ∨ x'.s = 1)) ∨ (x.s = 1 ∧ x'.s = 1) ∨ ((x.s = 2 ∨ x.s = 3) ∧ (x'.s = 2 ∨ x'.s = 3)) ∨ ((x.s = 4 ∨ x.s = 5) ∧ (x'.s = 4 ∨ x'.s = 5)))) ∨ (x.s ≠ 0 ∧ x'.s = 0 ∧ Grew x x' [(2, 10, nilV)])
theorem OrdR.same {x x' : St} (h : Iv x) (h1 : x'.told = x.told) (h2 : x'.fl = x.fl) (h3 : x'.s = x.s) : OrdR x x' := by
  refine .inl ⟨h1, h2, ?_⟩
  have := h.s
  omega
theorem OrdR.go5 {x x' : St} (h : Iv x) (hg : Go5 x x') : OrdR x x' := by
  refine .inl ⟨hg.1, hg.2.1, ?_⟩
  have := h.s
  have := hg.2.2
  omega
theorem local_iv {x : St} (h : Iv x) (o : Bool) : Iv (x.local_ o) ∧ OrdR x (x.local_ o) := by
  unfold St.local_
  split
  · exact ⟨h, OrdR.same h rfl rfl rfl⟩
  · rename_i ho
    split
    · rename_i h4
      have : Iv (x.setC x.A.xs) := h.setC _
      exact ⟨⟨by show (0 : Int) ≤ 5 ∧ (5 : Int) ≤ 5; decide, h.lk, h.al, fun e => absurd (show (5 : Int) = 0 from e) (by decide), fun e => absurd (show (5 : Int) = 1 from e) (by decide), fun e => absurd (show (5 : Int) = 2 from e) (by decide), fun e => absurd (show (5 : Int) = 3 from e) (by decide), fun e => absurd (show (5 : Int) = 4 from e) (by decide), fun e => absurd (show false = true from e) (by decide), h.hs⟩, .inl ⟨rfl, rfl, .inr (.inr (.inr ⟨.inl h4, .inr rfl⟩))⟩⟩
    · rename_i h4
      split
      · rename_i h5
        have hI : Iv { x with own := o } := ⟨h.s, h.lk, h.al, h.s0, h.s1, fun e => by have : x.s = 2 := e; omega, fun e => by have : x.s = 3 := e; omega, fun e => absurd (show x.s = 4 from e) h4, h.due, h.hs⟩
        obtain ⟨g1, g2, g3, g4⟩ := goOn_iv hI
        exact ⟨g1, OrdR.go5 h ⟨g2, g3, g4⟩⟩
      · rename_i h5
        split
        · rename_i h2
          have hown := h.s2 h2
          have : o = true := by
            cases o
            · exact absurd hown ho
            · rfl
          exact ⟨⟨by show (0 : Int) ≤ 3 ∧ (3 : Int) ≤ 5; decide, h.lk, h.al, fun e => absurd (show (3 : Int) = 0 from e) (by decide), fun e => absurd (show (3 : Int) = 1 from e) (by decide), fun e => absurd (show (3 : Int) = 2 from e) (by decide), fun _ => this, fun e => absurd (show (3 : Int) = 4 from e) (by decide), h.due, h.hs⟩, .inl ⟨rfl, rfl, .inr (.inr (.inl ⟨.inl h2, .inr rfl⟩))⟩⟩
        · rename_i h2
          split
          · rename_i h3
            have hown := h.s3 h3
            have : o = false := by
              cases o
              · rfl
              · exact absurd hown ho
            exact ⟨⟨by show (0 : Int) ≤ 2 ∧ (2 : Int) ≤ 5; decide, h.lk, h.al, fun e => absurd (show (2 : Int) = 0 from e) (by decide), fun e => absurd (show (2 : Int) = 1 from e) (by decide), fun _ => this, fun e => absurd (show (2 : Int) = 3 from e) (by decide), fun e => absurd (show (2 : Int) = 4 from e) (by decide), h.due, h.hs⟩, .inl ⟨rfl, rfl, .inr (.inr (.inl ⟨.inr h3, .inl rfl⟩))⟩⟩
          · rename_i h3
            exact ⟨⟨h.s, h.lk, h.al, h.s0, h.s1, fun e => absurd (show x.s = 2 from e) h2, fun e => absurd (show x.s = 3 from e) h3, fun e => absurd (show x.s = 4 from e) h4, h.due, h.hs⟩, OrdR.same h rfl rfl rfl⟩
theorem hs_put (s : Hs) (p : List Int) : (s.put p).most = s.most ∧ (s.put p).oct = s.oct := by unfold Hs.put; split <;> exact ⟨rfl, rfl⟩
theorem ja_begin {J : Ja} (h : J.due = true → J.own = true) : J.begin_.due = true → J.begin_.own = true := by
  unfold Ja.begin_
  split
  · exact h
  · exact fun _ => rfl
theorem ord_iv {x : St} (h : Iv x) (o : Int) (p : List Int) : Iv (x.ord o p) ∧ OrdR x (x.ord o p) := by
  have hno : Iv x ∧ OrdR x x := ⟨h, OrdR.same h rfl rfl rfl⟩
  unfold St.ord
  split
  · unfold St.begin_
    split
    · rename_i h0
      exact ⟨⟨by show (0 : Int) ≤ 1 ∧ (1 : Int) ≤ 5; decide, by show 0 ≤ 63 ∧ 0 ≤ 255; decide, AIv.begin_ h.al, fun e => absurd (show (1 : Int) = 0 from e) (by decide), fun _ => by show (1 : Int) ≠ 0; decide, fun e => absurd (show (1 : Int) = 2 from e) (by decide), fun e => absurd (show (1 : Int) = 3 from e) (by decide), fun e => absurd (show (1 : Int) = 4 from e) (by decide), h.due, h.hs⟩, .inl ⟨rfl, rfl, .inl ⟨h0, .inr rfl⟩⟩⟩
    · exact hno
  · split
    · unfold St.stopO
      by_cases h0 : x.s = 0
      · have : x.fail 10 = x := by unfold St.fail; rw [if_pos h0]
        rw [this]
        exact hno
      · rw [fail_down h0]
        exact ⟨h.w.down 10, .inr ⟨h0, rfl, grew_down x 10 (by decide)⟩⟩
    · split
      · obtain ⟨a1, a2⟩ := AIv.hurry h.al (o == 3)
        exact ⟨h.setA a1 (fun e => a2.trans (h.s0 e)) (fun e => by rw [a2]; exact h.s1 e), OrdR.same h rfl rfl rfl⟩
      · split
        · unfold St.put_
          split
          · exact ⟨h.setW _ (hs_put _ _), OrdR.same h rfl rfl rfl⟩
          · exact hno
        · split
          · exact local_iv h _
          · split
            · exact ⟨h.setW _ ⟨rfl, rfl⟩, OrdR.same h rfl rfl rfl⟩
            · split
              · unfold St.resume
                split
                · obtain ⟨g1, g2, g3, g4⟩ := goOn_iv (h.held x.their false)
                  exact ⟨g1, OrdR.go5 h ⟨g2, g3, g4⟩⟩
                · exact hno
              · split
                · unfold St.busy
                  split
                  · split
                    · exact ⟨h.setJ (ja_begin h.due), OrdR.same h rfl rfl rfl⟩
                    · exact ⟨h.setJ (fun e => absurd (show false = true from e) (by decide)), OrdR.same h rfl rfl rfl⟩
                  · exact hno
                · exact hno

/-! ### What comes -/
/-- It is in use, and stays so; or ends. -/
def Use (x x' : St) (n : Nat) : Prop := ∃ ts, Grew x x' ts ∧ cntK 1 ts = 0 ∧ ts.length ≤ n ∧ (((x'.s = 4 ∨ x'.s = 5) ∧ cntK 2 ts = 0) ∨ (x'.s = 0 ∧ cntK 2 ts = 1))
theorem Use.mono {x x' : St} {n m : Nat} (h : Use x x' n) (hm : n ≤ m) : Use x x' m := by
  obtain ⟨ts, h1, h2, h3, h4⟩ := h
  exact ⟨ts, h1, h2, by omega, h4⟩
theorem Use.same {x x' : St} (h1 : x'.told = x.told) (h2 : x'.fl = x.fl) (h3 : x'.s = 4 ∨ x'.s = 5) : Use x x' 0 := ⟨[], Grew.no h1 h2, rfl, Nat.le_refl _, .inl ⟨h3, rfl⟩⟩
theorem Use.tell {x : St} (h3 : x.s = 4 ∨ x.s = 5) (k y : Int) (v : Value) (h1 : k ≠ 1) (h2 : k ≠ 2) : Use x (x.tell k y v) 1 := ⟨_, grew_tell x k y v h2, by simp [cntK, h1], by simp, .inl ⟨h3, by simp [cntK, h2]⟩⟩
/-- Behind what left it in use. -/
theorem Use.trans {x y z : St} {n m : Nat} (h : Use x y n) (hy : y.s = 4 ∨ y.s = 5) (h' : Use y z m) : Use x z (n + m) := by
  obtain ⟨ts, g1, g2, g3, g4⟩ := h
  obtain ⟨us, u1, u2, u3, u4⟩ := h'
  have g5 : cntK 2 ts = 0 := by omega
  exact ⟨ts ++ us, g1.trans u1, by rw [cntK_app]; omega, by simp; omega, by rw [cntK_app]; omega⟩
theorem use_down {x : St} (y : Int) (hy : 1 ≤ y ∧ y ≤ 10) : Use x (x.down y) 1 := ⟨_, grew_down x y hy, by simp [cntK], by simp, .inr ⟨rfl, by simp [cntK]⟩⟩
theorem use_fail {x : St} (h : x.s = 4 ∨ x.s = 5) (y : Int) (hy : 1 ≤ y ∧ y ≤ 10) : Use x (x.fail y) 1 := by
  rw [fail_down (by omega)]
  exact use_down y hy
/-- One more is told behind it. -/
theorem Use.tell2 {x y : St} {n : Nat} (h : Use x y n) (k w : Int) (v : Value) (h1 : k ≠ 1) (h2 : k ≠ 2) : Use x (y.tell k w v) (n + 1) := by
  obtain ⟨ts, g1, g2, g3, g4⟩ := h
  refine ⟨ts ++ [(k, w, v)], g1.trans (grew_tell y k w v h2), ?_, by simp; omega, ?_⟩
  · rw [cntK_app]; simp [cntK, h1, g2]
  · rw [cntK_app]; simp only [cntK, h2, if_false, Nat.add_zero]; exact g4

/-- The other side is proved, too. -/
theorem met_iv {x : St} (h : Iv x) (h2 : 2 ≤ x.s) : Iv x.meet ∧ (x.meet.s = 4 ∨ x.meet.s = 5) ∧ ((x.s = 2 ∨ x.s = 3) ∧ Grew x x.meet [(1, 0, nilV)] ∨ (x.s = 4 ∨ x.s = 5) ∧ x.meet = x) := by
  have hs := h.s
  unfold St.meet
  split
  · rename_i hc
    exact ⟨h, by omega, .inr ⟨by omega, rfl⟩⟩
  · rename_i hc
    have h23 : x.s = 2 ∨ x.s = 3 := by omega
    have hg : Grew x x.met [(1, 0, nilV)] := ⟨rfl, by simp [cntK, St.met, St.tell, St.stop, St.setC], Wy.one fun e => absurd e (by decide)⟩
    split
    · refine ⟨⟨by show (0 : Int) ≤ 5 ∧ (5 : Int) ≤ 5; decide, h.lk, h.al, fun e => absurd (show (5 : Int) = 0 from e) (by decide), fun e => absurd (show (5 : Int) = 1 from e) (by decide), fun e => absurd (show (5 : Int) = 2 from e) (by decide), fun e => absurd (show (5 : Int) = 3 from e) (by decide), fun e => absurd (show (5 : Int) = 4 from e) (by decide), fun e => absurd (show false = true from e) (by decide), h.hs⟩, .inr rfl, .inl ⟨h23, hg.then rfl rfl⟩⟩
    · rename_i ho
      have hown : x.own = false := by
        cases e : x.own with
        | false => rfl
        | true => exact absurd (show x.isOut = true from by unfold St.isOut; rw [e]; rfl) ho
      exact ⟨⟨by show (0 : Int) ≤ 4 ∧ (4 : Int) ≤ 5; decide, h.lk, h.al, fun e => absurd (show (4 : Int) = 0 from e) (by decide), fun e => absurd (show (4 : Int) = 1 from e) (by decide), fun e => absurd (show (4 : Int) = 2 from e) (by decide), fun e => absurd (show (4 : Int) = 3 from e) (by decide), fun _ => hown, h.due, h.hs⟩, .inl rfl, .inl ⟨h23, hg⟩⟩
theorem theyOut_iv {x : St} (h : Iv x) (hs : x.s = 4 ∨ x.s = 5) : Iv x.theyOut2.halted ∧ Use x x.theyOut2.halted 1 := by
  have h1 : Iv x.theyOut2 ∧ x.theyOut2.s = x.s ∧ Use x x.theyOut2 1 := by
    unfold St.theyOut2
    split
    · exact ⟨h.held _ _, rfl, (Use.same (x := x) (x' := x.their_ true) rfl rfl hs).mono (by omega)⟩
    · exact ⟨(h.held true (x.held || true)).tell 4 0 nilV, rfl, (Use.same (x := x) (x' := x.their_ true) rfl rfl hs).tell2 4 0 nilV (by decide) (by decide)⟩
  obtain ⟨hI, hs1, hu⟩ := h1
  unfold St.halted
  split
  · exact ⟨hI.halt, (hu.trans (by omega) (Use.same (x' := x.theyOut2.halt) rfl rfl (.inr rfl))).mono (by omega)⟩
  · exact ⟨hI, hu⟩
theorem theyIn_iv {x : St} (h : Iv x) (hs : x.s = 4 ∨ x.s = 5) : Iv x.theyIn ∧ (x.theyIn.s = 4 ∨ x.theyIn.s = 5) ∧ Use x x.theyIn 1 := by
  unfold St.theyIn
  split
  · have hI : Iv ((x.their_ false).tell 5 0 nilV) := (h.held false (x.held || false)).tell 5 0 nilV
    obtain ⟨g1, g2, g3, g4⟩ := goOn_iv hI
    have hu : Use x ((x.their_ false).tell 5 0 nilV) 1 := (Use.same (x := x) (x' := x.their_ false) rfl rfl hs).tell2 5 0 nilV (by decide) (by decide)
    have hs2 : ((x.their_ false).tell 5 0 nilV).s = x.s := rfl
    have hs3 : ((x.their_ false).tell 5 0 nilV).goOn.s = 4 ∨ ((x.their_ false).tell 5 0 nilV).goOn.s = 5 := by omega
    exact ⟨g1, hs3, hu.trans (by omega) (Use.same g2 g3 hs3)⟩
  · exact ⟨h, hs, (Use.same rfl rfl hs).mono (by omega)⟩
theorem an_hs (wt : Wt) (s : Hs) (b : Int) (ub : Bool) : (wt.an s b ub).1.2.most = s.most ∧ (wt.an s b ub).1.2.oct = s.oct := by
  cases wt <;> (simp only [Wt.an]; split <;> exact ⟨rfl, rfl⟩)
theorem ja_heard {J : Ja} (h : J.due = true → J.own = true) (w : Bool) : (J.heard w).due = true → (J.heard w).own = true := by
  unfold Ja.heard Ja.waits
  repeat' split
  all_goals exact h
theorem ja_answer {J : Ja} (h : J.due = true → J.own = true) : J.answer.due = true → J.answer.own = true := by
  unfold Ja.answer
  split <;> exact h
theorem hearAns_iv {x : St} (h : Iv x) (hs : x.s = 4 ∨ x.s = 5) (b : Int) (ub : Bool) : Iv (x.hearAns b ub) ∧ Use x (x.hearAns b ub) 1 ∧ (x.hearOk b ub = true → (x.hearAns b ub).s = 4 ∨ (x.hearAns b ub).s = 5) := by
  have hA : Iv (x.ans b ub) := h.setW _ (an_hs _ _ _ _)
  unfold St.hearAns
  split
  · have h2 : Iv (x.ans2 b ub) ∧ (x.ans2 b ub).told = x.told ∧ (x.ans2 b ub).fl = x.fl ∧ (x.ans2 b ub).s = x.s := by
      unfold St.ans2
      split
      · obtain ⟨g1, g2, g3⟩ := grew_await ((x.ans b ub).stop 7)
        exact ⟨(hA.setC _).await, g1, g2, g3⟩
      · exact ⟨hA, rfl, rfl, rfl⟩
    obtain ⟨hI, e1, e2, e3⟩ := h2
    have hs4 : (x.ans2 b ub).s = 4 ∨ (x.ans2 b ub).s = 5 := by omega
    have hu : Use x (x.ans2 b ub) 0 := Use.same e1 e2 hs4
    unfold St.jamAns
    split
    · split
      · exact ⟨(hI.setJ (ja_answer hI.due)).tell 7 0 nilV, (hu.trans (by omega) (Use.same (x' := (x.ans2 b ub).setJ (x.ans2 b ub).J.answer) rfl rfl hs4)).tell2 7 0 nilV (by decide) (by decide), fun _ => hs4⟩
      · exact ⟨hI.setJ (ja_answer hI.due), (hu.trans (by omega) (Use.same (x' := (x.ans2 b ub).setJ (x.ans2 b ub).J.answer) rfl rfl hs4)).mono (by omega), fun _ => hs4⟩
    · exact ⟨hI, hu.mono (by omega), fun _ => by omega⟩
  · rename_i hok
    exact ⟨hA.fail 4, (Use.same (x := x) (x' := x.ans b ub) rfl rfl hs).trans hs (use_fail (x := x.ans b ub) hs 4 (by decide)) |>.mono (by omega), fun e => absurd e hok⟩
theorem take3_iv {x : St} (h : Iv x) (hs : x.s = 4 ∨ x.s = 5) (f k : Int) (uf : Bool) (q : Value) : Iv (x.take3 f k uf q) ∧ Use x (x.take3 f k uf q) 2 := by
  have hI : Iv (x.take f k uf) := h.setW _ ⟨rfl, rfl⟩
  have h2 : Iv (x.take2 f k uf) ∧ Use x (x.take2 f k uf) 1 := by
    unfold St.take2
    split
    · exact ⟨hI.fail 4, (Use.same (x := x) (x' := x.take f k uf) rfl rfl hs).trans hs (use_fail (x := x.take f k uf) hs 4 (by decide)) |>.mono (by omega)⟩
    · exact ⟨hI, (Use.same (x := x) (x' := x.take f k uf) rfl rfl hs).mono (by omega)⟩
  unfold St.take3
  split
  · exact ⟨h2.1.tell 3 0 q, h2.2.tell2 3 0 q (by decide) (by decide)⟩
  · exact ⟨h2.1, h2.2.mono (by omega)⟩
theorem hearRest_iv {x : St} (h : Iv x) (hs : x.s = 4 ∨ x.s = 5) (b f k : Int) (ub uf : Bool) (q : Value) :
    Iv (if x.theyIn.hearOk b ub = true ∧ (x.theyIn.hearAns b ub).takes = true then (x.theyIn.hearAns b ub).take3 f k uf q else x.theyIn.hearAns b ub) ∧ Use x (if x.theyIn.hearOk b ub = true ∧ (x.theyIn.hearAns b ub).takes = true then (x.theyIn.hearAns b ub).take3 f k uf q else x.theyIn.hearAns b ub) 4 := by
  obtain ⟨i1, s1, u1⟩ := theyIn_iv h hs
  obtain ⟨i2, u2, s2⟩ := hearAns_iv i1 s1 b ub
  have u3 := u1.trans s1 u2
  split
  · rename_i hc
    obtain ⟨i3, u4⟩ := take3_iv i2 (s2 hc.1) f k uf q
    exact ⟨i3, (u3.trans (s2 hc.1) u4).mono (by omega)⟩
  · exact ⟨i2, u3.mono (by omega)⟩

/-- What an act does: the state it was in, the state it is in, what is told. -/
def QA (was now : Int) (ts : List Td) : Prop :=
  ts.length ≤ 6 ∧
  ((was = 0 ∧ (now = 0 ∨ now = 1) ∧ cntK 1 ts = 0 ∧ cntK 2 ts = 0) ∨
   (was = 1 ∧ cntK 1 ts = 0 ∧ ((now = 1 ∨ now = 2 ∨ now = 3) ∧ cntK 2 ts = 0 ∨ now = 0 ∧ cntK 2 ts = 1)) ∨
   ((was = 2 ∨ was = 3) ∧ (((now = 2 ∨ now = 3) ∧ cntK 1 ts = 0 ∧ cntK 2 ts = 0) ∨ ((now = 4 ∨ now = 5) ∧ cntK 1 ts = 1 ∧ cntK 2 ts = 0) ∨ (now = 0 ∧ cntK 1 ts ≤ 1 ∧ cntK 2 ts = 1))) ∨
   ((was = 4 ∨ was = 5) ∧ cntK 1 ts = 0 ∧ (((now = 4 ∨ now = 5) ∧ cntK 2 ts = 0) ∨ (now = 0 ∧ cntK 2 ts = 1))))
/-- An act. -/
def DoR (x x' : St) : Prop := Iv x' ∧ ∃ ts, Grew x x' ts ∧ QA x.s x'.s ts
theorem Mt.qa {x x' : St} (h : Iv x) (hm : Mt x x') : ∃ ts, Grew x x' ts ∧ QA x.s x'.s ts := by
  have hs := h.s
  rcases hm with ⟨t1, f1, a1, a2, a3⟩ | ⟨n1, s1, y, hy, g⟩
  · refine ⟨[], Grew.no t1 f1, by simp, ?_⟩
    have c1 : cntK 1 [] = 0 := rfl
    have c2 : cntK 2 [] = 0 := rfl
    rw [c1, c2]
    omega
  · refine ⟨_, g, by simp, ?_⟩
    have c1 : cntK 1 [(2, y, nilV)] = 0 := by simp [cntK]
    have c2 : cntK 2 [(2, y, nilV)] = 1 := by simp [cntK]
    rw [c1, c2]
    omega
theorem tick_do {x : St} (h : Iv x) : DoR x x.tick := ⟨(tick_mt h).1, (tick_mt h).2.qa h⟩
theorem tks_do {x : St} (h : Iv x) (n : Nat) : DoR x (x.tks n) := ⟨(tks_mt h n).1, (tks_mt h n).2.qa h⟩
theorem damage_do {x : St} (h : Iv x) : DoR x (x.count true) := ⟨(count_mt h true).1, (count_mt h true).2.1.qa h⟩
theorem ord_do {x : St} (h : Iv x) (o : Int) (p : List Int) : DoR x (x.ord o p) := by
  obtain ⟨hI, hr⟩ := ord_iv h o p
  refine ⟨hI, ?_⟩
  rcases hr with ⟨t1, f1, hs⟩ | ⟨n1, s1, g⟩
  · refine ⟨[], Grew.no t1 f1, by simp, ?_⟩
    have c1 : cntK 1 [] = 0 := rfl
    have c2 : cntK 2 [] = 0 := rfl
    rw [c1, c2]
    omega
  · refine ⟨_, g, by simp, ?_⟩
    have hs := h.s
    have c1 : cntK 1 [(2, (10 : Int), nilV)] = 0 := by simp [cntK]
    have c2 : cntK 2 [(2, (10 : Int), nilV)] = 1 := by simp [cntK]
    rw [c1, c2]
    omega
/-- It was in use. -/
theorem Use.qa {x x' : St} (hu : Use x x' 5) (hs : x.s = 4 ∨ x.s = 5) : ∃ ts, Grew x x' ts ∧ QA x.s x'.s ts := by
  obtain ⟨ts, g1, g2, g3, g4⟩ := hu
  exact ⟨ts, g1, by omega, by omega⟩
/-- It was ready. -/
theorem Use.qa2 {x y z : St} (hg : Grew x y [(1, 0, nilV)]) (hs : x.s = 2 ∨ x.s = 3) (hu : Use y z 5) : ∃ ts, Grew x z ts ∧ QA x.s z.s ts := by
  obtain ⟨ts, g1, g2, g3, g4⟩ := hu
  have c1 : cntK 1 ([((1 : Int), (0 : Int), nilV)] ++ ts) = 1 + cntK 1 ts := by rw [cntK_app]; simp [cntK]
  have c2 : cntK 2 ([((1 : Int), (0 : Int), nilV)] ++ ts) = cntK 2 ts := by rw [cntK_app]; simp [cntK]
  have c3 : ([((1 : Int), (0 : Int), nilV)] ++ ts).length ≤ 6 := by simp only [List.length_append, List.length_singleton]; omega
  refine ⟨_, hg.trans g1, c3, .inr (.inr (.inl ⟨hs, ?_⟩))⟩
  rw [c1, c2, g2]
  rcases g4 with ⟨h1, h2⟩ | ⟨h1, h2⟩
  · exact .inr (.inl ⟨h1, rfl, h2⟩)
  · exact .inr (.inr ⟨h1, Nat.le_refl _, h2⟩)
theorem hear2_do {x : St} (h : Iv x) (b f k st : Int) (ub uf : Bool) (q : Value) : DoR x (x.hear2 b f k st ub uf q) := by
  have hno : DoR x x := ⟨h, (Mt.refl x).qa h⟩
  have hs := h.s
  unfold St.hear2
  split
  · exact hno
  · rename_i h0
    split
    · split
      · rename_i h1
        have hA : Iv (x.setA (x.A.heard st)) := h.setA (AIv.heard h.al st).1 (fun e => absurd e h0) (fun e => (AIv.heard h.al st).2 (h.s1 e))
        have hy : x.A.why st = 0 ∨ (1 ≤ x.A.why st ∧ x.A.why st ≤ 10) := by unfold Al.why; split <;> simp
        exact ⟨hA.failFor _, ((Mt.same (x := x) (x' := x.setA (x.A.heard st)) rfl rfl rfl).trans (mt_failFor _ _ hy) h.s.1).qa h⟩
      · rename_i h1
        unfold St.heardLink
        split
        · exact ⟨h.fail 8, (mt_fail x 8 (by decide)).qa h⟩
        · split
          · exact ⟨h.fail 9, (mt_fail x 9 (by decide)).qa h⟩
          · split
            · unfold St.theyOut
              obtain ⟨i1, s1, hm⟩ := met_iv h (by omega)
              obtain ⟨i2, u2⟩ := theyOut_iv i1 s1
              refine ⟨i2, ?_⟩
              rcases hm with ⟨h23, hg⟩ | ⟨h45, he⟩
              · exact Use.qa2 hg h23 (u2.mono (by omega))
              · rw [he] at u2 ⊢
                exact Use.qa (u2.mono (by omega)) h45
            · split
              · rename_i h4
                unfold St.jamHeard
                split
                · exact ⟨h.setJ (ja_heard h.due _), (Mt.same (x := x) (x' := x.setJ (x.J.heard x.waits)) rfl rfl rfl).qa h⟩
                · exact ⟨(h.setJ (ja_heard h.due _)).tell 6 0 nilV, Use.qa (((Use.same (x := x) (x' := x.setJ (x.J.heard x.waits)) rfl rfl (.inl h4.2)).tell2 6 0 nilV (by decide) (by decide)).mono (by omega)) (.inl h4.2)⟩
              · exact hno
    · split
      · exact hno
      · rename_i h1
        unfold St.heardOther St.mt
        obtain ⟨i1, s1, hm⟩ := met_iv h (by omega)
        obtain ⟨i2, u2⟩ := hearRest_iv i1 s1 b f k ub uf q
        refine ⟨i2, ?_⟩
        rcases hm with ⟨h23, hg⟩ | ⟨h45, he⟩
        · exact Use.qa2 hg h23 (u2.mono (by omega))
        · rw [he] at u2 ⊢
          exact Use.qa (u2.mono (by omega)) h45
theorem hear_do {x : St} (h : Iv x) (b f k st : Int) (ub uf : Bool) (q : Value) : DoR x (x.hear b f k st ub uf q) := by
  obtain ⟨i1, m1, h1⟩ := count_mt h false
  obtain ⟨i2, ts, g2, q2⟩ := hear2_do i1 b f k st ub uf q
  refine ⟨i2, ?_⟩
  have hs := h.s
  rcases m1 with ⟨t1, f1, a1, a2, a3⟩ | ⟨n1, s1, y, hy, g⟩
  · have hsame : (x.count false).s = x.s := by
      by_cases e : x.s = 0
      · rw [a1 e, e]
      · by_cases e1 : x.s = 1
        · rcases h1 e1 with e2 | e2
          · rw [e2, e1]
          · have := a2 e1; omega
        · exact a3 (by omega)
    rw [hsame] at q2
    exact ⟨[] ++ ts, (Grew.no t1 f1).trans g2, q2⟩
  · have e : x.hear b f k st ub uf q = x.count false := by
      show (x.count false).hear2 b f k st ub uf q = _
      unfold St.hear2
      rw [if_pos s1]
    rw [e]
    exact Mt.qa h (.inr ⟨n1, s1, y, hy, g⟩)
theorem nx_hs (wt : Wt) (s : Hs) : (wt.nx s).1.2.most = s.most ∧ (wt.nx s).1.2.oct = s.oct := by
  cases wt with
  | inl t =>
    simp only [Wt.nx, Bs.nx]
    repeat' split
    all_goals exact ⟨rfl, rfl⟩
  | inr t =>
    simp only [Wt.nx, Cs.nx]
    repeat' split
    all_goals exact ⟨rfl, rfl⟩
theorem next_iv {x : St} (h : Iv x) : Iv x.next ∧ x.next.told = x.told ∧ x.next.fl = x.fl ∧ x.next.s = x.s ∧ x.next.J.own = x.J.own ∧ x.next.own = x.own := by
  unfold St.next
  split
  · unfold St.nextS
    have hJ : Iv x.toldJ := h.setJ (fun e => absurd (show false = true from e) (by decide))
    split
    · exact ⟨hJ, rfl, rfl, rfl, rfl, rfl⟩
    · have hN : Iv x.nxt := hJ.setW _ (nx_hs _ _)
      obtain ⟨g1, g2, g3⟩ := grew_await x.nxt
      have g4 : x.nxt.await.J.own = x.J.own ∧ x.nxt.await.own = x.own := by unfold St.await; split <;> exact ⟨rfl, rfl⟩
      unfold St.stop7
      split
      · exact ⟨hN.await, g1, g2, g3, g4.1, g4.2⟩
      · exact ⟨hN.await.setC _, g1, g2, g3, g4.1, g4.2⟩
  · exact ⟨h, rfl, rfl, rfl, rfl, rfl⟩
theorem next_do {x : St} (h : Iv x) : DoR x x.next := by
  obtain ⟨i, t, f, s, -⟩ := next_iv h
  exact ⟨i, (Mt.same t f s).qa h⟩
end Go.Proofs.YtldjglmelbkngaaGreat.Tape
