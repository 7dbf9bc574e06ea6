/- What FlagCuts needs: where each is heard; rows of what is heard, one behind the other. No walk here. -/
import Derived.Test.YtfjfnfofbhikdaaStream2
namespace Go.Proofs.Ytfjfnfofbhikdaa.Tape
open Go.ChangeShapes Go.WideShapes Go.ChangeAt Go.RowKit

theorem pos_gt (l : List Bool) : ∀ (s : Ear) (p : Nat), ∀ y ∈ eatsAt s p l, p < y.2 := by
  induction l with
  | nil => intro s p y hy; simp [eatsAt] at hy
  | cons b l ih =>
    intro s p y hy
    simp only [eatsAt, List.mem_append, List.mem_map] at hy
    rcases hy with ⟨x, _, rfl⟩ | hy
    · simp
    · have := ih _ _ y hy; omega
theorem next_some {hs : List HV} {kk i : Nat} {s s2 : Ear} {b : Bool} {l : List Bool} {x : Nat × List Int} (h : (hs.map HV.told).drop kk = eatsAt s i (b :: l)) (he : eat s b = (s2, some x)) :
    ∃ hk : kk < hs.length, hs[kk].kind = x.1 ∧ hs[kk].pos = i + 1 ∧ (hs.map HV.told).drop (kk + 1) = eatsAt s2 (i + 1) l := by
  rw [eatsAt, he] at h
  have hk : kk < hs.length := by
    rcases Nat.lt_or_ge kk hs.length with hk | hk
    · exact hk
    · rw [List.drop_eq_nil_of_le (by simpa using hk)] at h; simp at h
  rw [List.drop_eq_getElem_cons (by simpa using hk)] at h
  simp [HV.told] at h
  exact ⟨hk, by rw [← h.1.1], h.1.2, by simpa [HV.told] using h.2⟩
theorem next_none {hs : List HV} {kk i : Nat} {s s2 : Ear} {b : Bool} {l : List Bool} (h : (hs.map HV.told).drop kk = eatsAt s i (b :: l)) (he : eat s b = (s2, none)) :
    (hs.map HV.told).drop kk = eatsAt s2 (i + 1) l ∧ ∀ hk : kk < hs.length, hs[kk].pos ≠ i + 1 := by
  rw [eatsAt, he] at h
  have h' : (hs.map HV.told).drop kk = eatsAt s2 (i + 1) l := by simpa using h
  refine ⟨h', fun hk e => ?_⟩
  have hg := pos_gt l s2 (i + 1) (HV.told hs[kk]) (by rw [← h', List.drop_eq_getElem_cons (by simpa using hk)]; simp)
  simp [HV.told] at hg
  omega

theorem bs_cut (bs : List Bool) (a n : Nat) (h : a ≤ n) : bs.take n = bs.take a ++ (bs.drop a).take (n - a) := by
  have := List.take_add (l := bs) (i := a) (j := n - a)
  rw [show a + (n - a) = n by omega] at this
  exact this

/-- Two rows one behind the other. -/
theorem HRow.join {B B2 : Nat} {u u2 u' : Value} {hs hs2 : List HV} {w w' : World} (h : HRow 57 2 HV.two B u hs w) (h2 : HRow 57 2 HV.two B2 u2 hs2 w) (hB : B ≤ B2) (hu : ∀ g, u.ownBlock = some g → g < B2)
    (hg : w.grownBy w' u.ownBlock) (hrow : w'.ownsRow B 57 2 u' (hs.length + hs2.length) (hs.flatMap HV.two ++ hs2.flatMap HV.two)) (hat : ∀ g, u'.ownBlock = some g → u.ownBlock = some g ∨ w.heap.size ≤ g) : HRow 57 2 HV.two B u' (hs ++ hs2) w' := by
  refine ⟨by simpa using hrow, fun y hy => ?_⟩
  have key : ∀ y : HV, HV.Ok w y → Lies w B y.ao → (∀ z, y.ao = some z → u.ownBlock ≠ some z.block) → HV.Ok w' y ∧ Lies w' B y.ao ∧ ∀ z, y.ao = some z → u'.ownBlock ≠ some z.block := fun y k1 k2 k3 =>
    ⟨k1.far (fun z hz => hg.block z.block (k2 z hz).2 (fun e => k3 z hz e.symm)), k2.mono (Nat.le_refl _) hg.size, fun z hz e => by
      rcases hat _ e with e | e
      · exact k3 z hz e
      · have := (k2 z hz).2; omega⟩
  rcases List.mem_append.1 hy with hy | hy
  · obtain ⟨k1, k2, k3⟩ := h.each y hy
    exact key y k1 k2 k3
  · obtain ⟨k1, k2, _⟩ := h2.each y hy
    exact key y k1 (k2.mono hB (Nat.le_refl _)) (fun z hz e => by have := hu _ e; have := (k2 z hz).1; omega)

/-- What is appended: a row of what is heard, nil or not. -/
theorem append_heard {w : World} {ops : Array Oper} {rest : List Oper} {o : Oper} {a : Act} {Q : Exit → Act → World → Prop} (hgd : o.guard = none) (s x : Operand)
    (ho : o.op = .call { callee := .builtin .append, args := #[s, x], argTypes := #[49, 49] }) (base : Nat) (v : Value) (n : Nat) (us : List Value) (hs : a.eval s = v) (hown : w.ownsRow base 57 2 v n us)
    (B2 : Nat) (u2 : Value) (hs2 : List HV) (hx : a.eval x = u2) (h2 : HRow 57 2 HV.two B2 u2 hs2 w)
    (h63 : n + hs2.length ≤ 1000000) (hbase : base ≤ w.heap.size)
    (h : ∀ v' w', w'.ownsRow base 57 2 v' (n + hs2.length) (us ++ hs2.flatMap HV.two) → w.grownBy w' v.ownBlock → (∀ g, v'.ownBlock = some g → v.ownBlock = some g ∨ w.heap.size ≤ g) → wpList Try.prog ops Q rest (a.put o.dst v') w') : wpList Try.prog ops Q (o :: rest) a w := by
  obtain ⟨i0, hi, hz0, hz1, hz2⟩ := info_parts info57
  rcases h2.row.2 with ⟨hv, h0⟩ | ⟨g, cap, cur, hv, _, hg, hc, _⟩
  · have e : hs2 = [] := List.eq_nil_of_length_eq_zero h0
    subst e
    subst hv
    refine wpList_append_own_none hgd s x 49 ho base 57 i0 2 Try.underlying49 hi v n us hs hown hx ?_
    exact h v w (by simpa using hown) ⟨rfl, rfl, rfl, Nat.le_refl _, fun _ _ _ => rfl⟩ (fun g hg => .inl hg)
  · subst hv
    refine wpList_append_own_at w hgd s x 49 ho base 57 i0 _ 2 32 Try.underlying49 hi hz0 hz1 hz2 rfl (by decide) v n us hs hown ⟨g, 0, none⟩ hs2.length cap (hs2.flatMap HV.two) hx h2.row.1 (h2.row.cells rfl) ?_ (by unfold maxLen; omega) (by omega) hbase ?_
    · intro u hu
      obtain ⟨y, _, hy⟩ := List.mem_flatMap.1 hu
      simp [HV.two] at hy
      rcases hy with rfl | rfl <;> rfl
    · intro v' w' hown' hgrow _ hat
      refine h v' w' hown' hgrow (fun k hk => ?_)
      rcases hat with e | e
      · exact .inl (by rw [← e]; exact hk)
      · right; rw [e] at hk; cases hk; exact Nat.le_refl _

/-- A call of Bits, and what it answers put behind what was heard before. -/
theorem cuts_step {w6 wr w2 w3 : World} {B b : Nat} {vy vy' u u2 u' : Value} {hs hs2 : List HV} {s' : Ear} (hB6 : b < w6.heap.size) (hrow : HRow 57 2 HV.two w6.heap.size u hs wr) (hsep : Sep b vy u hs) (hfr : Fr b (.slice none 0 0) w6 wr) (hmv : Moved w6 (.slice none 0 0) vy)
    (hrow2 : HRow 57 2 HV.two wr.heap.size u2 hs2 w2) (hsep2 : Sep b vy' u2 hs2) (hear2 : EarAt w2 B b vy' s') (hfr2 : Fr b vy wr w2) (hmv2 : Moved wr vy vy')
    (hown : w3.ownsRow w6.heap.size 57 2 u' (hs.length + hs2.length) (hs.flatMap HV.two ++ hs2.flatMap HV.two)) (hgrow : w2.grownBy w3 u.ownBlock) (hat : ∀ g, u'.ownBlock = some g → u.ownBlock = some g ∨ w2.heap.size ≤ g) :
    HRow 57 2 HV.two w6.heap.size u' (hs ++ hs2) w3 ∧ Sep b vy' u' (hs ++ hs2) ∧ EarAt w3 B b vy' s' ∧ Fr b (.slice none 0 0) w6 w3 ∧ Moved w6 (.slice none 0 0) vy' := by
  have hul : ∀ k, u.ownBlock = some k → k < wr.heap.size ∧ w6.heap.size ≤ k := fun k hk => ⟨(hrow.row.lt k hk).2, (hrow.row.lt k hk).1⟩
  have hsepm := hsep.moved hrow hmv2
  have hF2 : Fr b (.slice none 0 0) w6 w2 := hfr.trans hmv hfr2
  refine ⟨(hrow.fr hsep hfr2).join hrow2 hfr.size (fun g hg => (hul g hg).1) hgrow hown hat, ⟨fun y hy z hz => ?_, fun g hg => ?_⟩, ?_, fr_grown hF2 hgrow (fun k hk => (hul k hk).2), hmv.trans hfr.size hmv2⟩
  · rcases List.mem_append.1 hy with hy | hy
    · exact hsepm.each y hy z hz
    · exact hsep2.each y hy z hz
  · rcases hat g hg with h | h
    · exact hsepm.far g h
    · exact ⟨by have := hear2.lt; omega, fun e => by have := (hear2.row.lt g e).2; omega⟩
  · exact hear2.grown hgrow (fun e => by have := (hul b e).2; omega) (fun g hg e => (hsepm.far g e).2 hg)
end Go.Proofs.Ytfjfnfofbhikdaa.Tape
