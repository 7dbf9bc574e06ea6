/- CyclicLoses' two sides and two lines in memory; the history of the states. -/
import Derived.Test.YtmnhciildlmjcaaLose3
namespace Go.Proofs.Ytmnhciildlmjcaa.Tape
open Go.ChangeShapes Go.WideShapes Go.ChangeAt Go.RowKit
set_option linter.unusedVariables false

/-- What is lost in a round. -/
def lossAt (xs : List Int) (i : Nat) : Int := if i < xs.length then xs.getD i 0 % 4 else 0
def rbF (xs : List Int) (e i : Nat) : Bool := decide (e ≤ i) && decide (lossAt xs i ≠ 1 ∧ lossAt xs i ≠ 3)
def raF (xs : List Int) (e i : Nat) : Bool := decide (e ≤ i) && decide (lossAt xs i ≠ 2 ∧ lossAt xs i ≠ 3)
/-- The states up to a round. -/
def hist (k c e : Nat) (xs : List Int) : Nat → Nat → Ls
  | 0 => fun _ => l0
  | i + 1 => fun j => if j ≤ i then hist k c e xs i j else (hist k c e xs i i).step k c (rbF xs e i) (raF xs e i) (hist k c e xs i (i - e))
/-- The states, round by round. -/
def hst (k c e : Nat) (xs : List Int) (i : Nat) : Ls := hist k c e xs i i

theorem hist_hst (k c e : Nat) (xs : List Int) (n j : Nat) (hj : j ≤ n) : hist k c e xs n j = hst k c e xs j := by
  induction n with
  | zero =>
    obtain rfl : j = 0 := by omega
    rfl
  | succ n ih =>
    by_cases h : j ≤ n
    · rw [← ih h]
      show (if j ≤ n then hist k c e xs n j else _) = _
      rw [if_pos h]
    · obtain rfl : j = n + 1 := by omega
      rfl

theorem hst_run (k c e : Nat) (xs : List Int) : Run k c e (rbF xs e) (raF xs e) (hst k c e xs) where
  zero := rfl
  next i := by
    show (if i + 1 ≤ i then hist k c e xs i (i + 1) else (hist k c e xs i i).step k c (rbF xs e i) (raF xs e i) (hist k c e xs i (i - e))) = _
    rw [if_neg (by omega), hist_hst k c e xs i (i - e) (by omega)]
    rfl
  early i hi := by unfold rbF raF; simp [show ¬ e ≤ i by omega]

theorem hst_last (k c e : Nat) (xs : List Int) (n : Nat) (hc : 1 ≤ c) (hc2 : c ≤ 12) (hx : xs.length ≤ 60) (he : e ≤ 5) (hk : k < 20) (hn : 900 ≤ n) : (hst k c e xs n).g = k ∧ (hst k c e xs n).f = k ∧ (hst k c e xs n).S = k :=
  (hst_run k c e xs).at_last (L := 60) hc hc2 (fun i hi hie => by unfold rbF raF lossAt; rw [if_neg (by omega)]; simp; omega) hk he n (by omega)

/-- The states whose units are under way. -/
def win (k c e : Nat) (xs : List Int) (i : Nat) : List Ls := (List.range' (i - e) (min i e)).map (hst k c e xs)
theorem win_len (k c e : Nat) (xs : List Int) (i : Nat) : (win k c e xs i).length = min i e := by simp [win]
theorem win_early (k c e : Nat) (xs : List Int) (i : Nat) (h : i < e) : win k c e xs i ++ [hst k c e xs i] = win k c e xs (i + 1) := by
  unfold win
  rw [show i - e = 0 by omega, show i + 1 - e = 0 by omega, show min i e = i by omega, show min (i + 1) e = i + 1 by omega, List.range'_concat, List.map_append]
  simp
theorem win_late (k c e : Nat) (xs : List Int) (i : Nat) (h : e ≤ i) : win k c e xs i ++ [hst k c e xs i] = hst k c e xs (i - e) :: win k c e xs (i + 1) := by
  unfold win
  rw [show min i e = e by omega, show min (i + 1) e = e by omega, show i + 1 - e = (i - e) + 1 by omega]
  rw [← List.map_cons, ← List.range'_succ, List.range'_concat, List.map_append]
  simp
  congr 1
  omega

/-- Units and their states, one by one. -/
def EachU (M : Array Value → Ls → Prop) : List (Array Value) → List Ls → Prop
  | [], [] => True
  | u :: us, s :: ss => M u s ∧ EachU M us ss
  | _, _ => False
theorem EachU.len {M : Array Value → Ls → Prop} : ∀ {us : List (Array Value)} {ss : List Ls}, EachU M us ss → us.length = ss.length
  | [], [], _ => rfl
  | u :: us, s :: ss, h => by simp [h.2.len]
  | [], _ :: _, h => by cases h
  | _ :: _, [], h => by cases h
theorem EachU.mono {M M' : Array Value → Ls → Prop} (hM : ∀ u s, M u s → M' u s) : ∀ {us : List (Array Value)} {ss : List Ls}, EachU M us ss → EachU M' us ss
  | [], [], _ => trivial
  | u :: us, s :: ss, h => ⟨hM _ _ h.1, h.2.mono hM⟩
  | [], _ :: _, h => by cases h
  | _ :: _, [], h => by cases h
theorem EachU.snoc {M : Array Value → Ls → Prop} {v : Array Value} {t : Ls} (k : M v t) : ∀ {us : List (Array Value)} {ss : List Ls}, EachU M us ss → EachU M (us ++ [v]) (ss ++ [t])
  | [], [], _ => ⟨k, trivial⟩
  | u :: us, s :: ss, h => ⟨h.1, h.2.snoc k⟩
  | [], _ :: _, h => by cases h
  | _ :: _, [], h => by cases h

/-- The two sides and the two lines in memory. -/
structure LP (w0 w : World) (C k c pa hba pb hbb : Nat) (Ta Tb : Nat → Prop) (ta : Cs) (sa : Hs) (tb : Cs) (v1 v2 : Value) (us vs : List (Array Value)) (ss : List Ls) : Prop where
  a : CycIn w pa hba C Ta ta sa
  b : CycIn w pb hbb C Tb tb sb0
  ab : ∀ g, (g = pa ∨ Ta g) → (g = pb ∨ Tb g) → False
  r1 : URow w v1 us
  e1 : EachU (UA w C k c) us ss
  r2 : URow w v2 vs
  r12 : ∀ g, v1.ownBlock = some g → v2.ownBlock = some g → False
  l1 : ∀ g, v1.ownBlock = some g → C ≤ g
  l2 : ∀ g, v2.ownBlock = some g → C ≤ g
  low : Below C w0 w
  le : C ≤ w0.heap.size

theorem CycIn.other {w w' : World} {p hb B : Nat} {T0 T1 T1' : Nat → Prop} {t : Cs} {s : Hs} (h : CycIn w p hb B T0 t s) (hf : Foot T1 T1' w w') (hd : ∀ g, (g = p ∨ T0 g) → ¬ T1 g) (h5 : ∀ (g : Nat) cur, w.heap[g]? = some (.cells cur 5 (0, 0)) → ¬ T1 g) : CycIn w' p hb B T0 t s :=
  ⟨(hf.block p (heap_lt h.cells) (hd p (.inl rfl))).trans h.cells, h.hold.stay (fun k hk => hf.block k (h.hold.mine k hk).2 (hd k (.inr hk))) (fun k cur hk => hf.block k (heap_lt hk) (h5 k cur hk)), h.lowp, h.lowh, h.last, h.pl⟩

/-- A row of units grows. -/
theorem CycIn.row {w w' : World} {p hb B : Nat} {T0 : Nat → Prop} {t : Cs} {s : Hs} {v : Value} {us : List (Array Value)} (h : CycIn w p hb B T0 t s) (hg : w.grownBy w' v.ownBlock) (hr : URow w v us) : CycIn w' p hb B T0 t s := by
  cases hv : v.ownBlock with
  | none =>
    rw [hv] at hg
    exact h.below ⟨hg.os, hg.tape, hg.output, hg.size, fun k hk => hg.block k hk (by simp)⟩
  | some r =>
    rw [hv] at hg
    obtain ⟨cur, hc⟩ := hr.type r hv
    exact h.off hg hc
theorem row5 {w w' : World} {v : Value} {us : List (Array Value)} (hg : w.grownBy w' v.ownBlock) (hr : URow w v us) (g : Nat) (cur : Array Value) (h5 : w.heap[g]? = some (.cells cur 5 (0, 0))) : w'.heap[g]? = w.heap[g]? := hg.block g (heap_lt h5) (fun e => by
  obtain ⟨c, hc⟩ := hr.type g e.symm
  rw [h5] at hc
  simp at hc)

section
variable {w0 w w' : World} {C k c pa hba pb hbb : Nat} {Ta Tb : Nat → Prop} {ta : Cs} {sa : Hs} {tb : Cs} {v1 v2 : Value} {us vs : List (Array Value)} {ss : List Ls}

theorem LP.size (h : LP w0 w C k c pa hba pb hbb Ta Tb ta sa tb v1 v2 us vs ss) : C ≤ w.heap.size := Nat.le_trans h.le h.low.size

theorem LP.below (h : LP w0 w C k c pa hba pb hbb Ta Tb ta sa tb v1 v2 us vs ss) (hb : Below w.heap.size w w') : LP w0 w' C k c pa hba pb hbb Ta Tb ta sa tb v1 v2 us vs ss :=
  ⟨h.a.below hb, h.b.below hb, h.ab, h.r1.below hb, h.e1.mono (fun u s hu => hu.keep fun g cur hg => hb.block g (heap_lt hg)), h.r2.below hb, h.r12, h.l1, h.l2, h.low.trans (below_le hb h.size), h.le⟩

theorem LP.stepA {Ta' : Nat → Prop} {ta' : Cs} {sa' : Hs} (h : LP w0 w C k c pa hba pb hbb Ta Tb ta sa tb v1 v2 us vs ss) (ha : CycIn w' pa hba C Ta' ta' sa') (hF : Foot (fun g => g = pa ∨ Ta g) (fun g => g = pa ∨ Ta' g) w w') : LP w0 w' C k c pa hba pb hbb Ta' Tb ta' sa' tb v1 v2 us vs ss := by
  have n5 := h.a.at_.not5
  have n32 := h.a.at_.not37
  refine ⟨ha, h.b.other hF (fun g hg hg' => h.ab g hg' hg) n5, fun g ga gb => ?_, h.r1.at_ fun g hg => ?_, h.e1.mono (fun u s hu => hu.keep fun g cur hg => hF.block g (heap_lt hg) (n5 g cur hg)), h.r2.at_ fun g hg => ?_, h.r12, h.l1, h.l2, h.low.trans (h.a.fbelow hF (Nat.le_refl _) h.size), h.le⟩
  · rcases hF.moved g ga with e | e
    · exact h.ab g e gb
    · have := (h.b.at_.lt g gb).2
      omega
  · obtain ⟨cur, hc⟩ := h.r1.type g hg
    exact hF.block g (heap_lt hc) (n32 g cur hc)
  · obtain ⟨cur, hc⟩ := h.r2.type g hg
    exact hF.block g (heap_lt hc) (n32 g cur hc)

theorem LP.stepB {Tb' : Nat → Prop} {tb' : Cs} (h : LP w0 w C k c pa hba pb hbb Ta Tb ta sa tb v1 v2 us vs ss) (hb : CycIn w' pb hbb C Tb' tb' sb0) (hF : Foot (fun g => g = pb ∨ Tb g) (fun g => g = pb ∨ Tb' g) w w') : LP w0 w' C k c pa hba pb hbb Ta Tb' ta sa tb' v1 v2 us vs ss := by
  have n5 := h.b.at_.not5
  have n32 := h.b.at_.not37
  refine ⟨h.a.other hF (fun g hg hg' => h.ab g hg hg') n5, hb, fun g ga gb => ?_, h.r1.at_ fun g hg => ?_, h.e1.mono (fun u s hu => hu.keep fun g cur hg => hF.block g (heap_lt hg) (n5 g cur hg)), h.r2.at_ fun g hg => ?_, h.r12, h.l1, h.l2, h.low.trans (h.b.fbelow hF (Nat.le_refl _) h.size), h.le⟩
  · rcases hF.moved g gb with e | e
    · exact h.ab g ga e
    · have := (h.a.at_.lt g ga).2
      omega
  · obtain ⟨cur, hc⟩ := h.r1.type g hg
    exact hF.block g (heap_lt hc) (n32 g cur hc)
  · obtain ⟨cur, hc⟩ := h.r2.type g hg
    exact hF.block g (heap_lt hc) (n32 g cur hc)

theorem gb_row_below {v : Value} (h : Below C w0 w) (hg : w.grownBy w' v.ownBlock) (hl : ∀ g, v.ownBlock = some g → C ≤ g) (hC : C ≤ w.heap.size) : Below C w0 w' :=
  h.trans ⟨hg.os, hg.tape, hg.output, hg.size, fun k hk => hg.block k (by omega) (fun e => by have := hl k e.symm; omega)⟩

theorem LP.push1 {v' : Value} {u : Array Value} {s : Ls} (h : LP w0 w C k c pa hba pb hbb Ta Tb ta sa tb v1 v2 us vs ss) (hu : UA w C k c u s) (hr : URow w' v' (us ++ [u])) (hg : w.grownBy w' v1.ownBlock) (hm : ∀ g, v'.ownBlock = some g → v1.ownBlock = some g ∨ w.heap.size ≤ g) :
    LP w0 w' C k c pa hba pb hbb Ta Tb ta sa tb v' v2 (us ++ [u]) vs (ss ++ [s]) := by
  have k5 := fun (g : Nat) cur (hc : w.heap[g]? = some (.cells cur 5 (0, 0))) => row5 hg h.r1 g cur hc
  refine ⟨h.a.row hg h.r1, h.b.row hg h.r1, h.ab, hr, (h.e1.mono (fun u s hu => hu.keep k5)).snoc (hu.keep k5), h.r2.at_ fun g hgg => hg.block g (h.r2.lt g hgg) (fun e => h.r12 g e.symm hgg), fun g g1 g2 => ?_, fun g g1 => ?_, h.l2, gb_row_below h.low hg h.l1 h.size, h.le⟩
  · rcases hm g g1 with e | e
    · exact h.r12 g e g2
    · have := h.r2.lt g g2
      omega
  · rcases hm g g1 with e | e
    · exact h.l1 g e
    · exact Nat.le_trans h.size e

theorem LP.push2 {v' : Value} {u : Array Value} (h : LP w0 w C k c pa hba pb hbb Ta Tb ta sa tb v1 v2 us vs ss) (hr : URow w' v' (vs ++ [u])) (hg : w.grownBy w' v2.ownBlock) (hm : ∀ g, v'.ownBlock = some g → v2.ownBlock = some g ∨ w.heap.size ≤ g) :
    LP w0 w' C k c pa hba pb hbb Ta Tb ta sa tb v1 v' us (vs ++ [u]) ss := by
  have k5 := fun (g : Nat) cur (hc : w.heap[g]? = some (.cells cur 5 (0, 0))) => row5 hg h.r2 g cur hc
  refine ⟨h.a.row hg h.r2, h.b.row hg h.r2, h.ab, h.r1.at_ fun g hgg => hg.block g (h.r1.lt g hgg) (fun e => h.r12 g hgg e.symm), h.e1.mono (fun u s hu => hu.keep k5), hr, fun g g1 g2 => ?_, h.l1, fun g g1 => ?_, gb_row_below h.low hg h.l2 h.size, h.le⟩
  · rcases hm g g2 with e | e
    · exact h.r12 g g1 e
    · have := h.r1.lt g g1
      omega
  · rcases hm g g1 with e | e
    · exact h.l2 g e
    · exact Nat.le_trans h.size e

theorem own_tail {ao : Option Addr} {n cap : Nat} {g : Nat} (h : (Value.slice (if cap = 1 then ao else ao.map (·.add 8)) (n - 1) (cap - 1)).ownBlock = some g) : (Value.slice ao n cap).ownBlock = some g := by
  cases ao with
  | none => simp [Value.ownBlock] at h
  | some ad =>
    split at h
    · simpa [Value.ownBlock] using h
    · simpa [Value.ownBlock, Addr.add] using h

/-- The first units are taken off. -/
theorem LP.tail {ao bo : Option Addr} {n m cap cbp : Nat} {u x : Array Value} {s : Ls} (h : LP w0 w C k c pa hba pb hbb Ta Tb ta sa tb (.slice ao n cap) (.slice bo m cbp) (u :: us) (x :: vs) (s :: ss)) :
    LP w0 w C k c pa hba pb hbb Ta Tb ta sa tb (.slice (if cap = 1 then ao else ao.map (·.add 8)) (n - 1) (cap - 1)) (.slice (if cbp = 1 then bo else bo.map (·.add 8)) (m - 1) (cbp - 1)) us vs ss ∧ UA w C k c u s :=
  ⟨⟨h.a, h.b, h.ab, h.r1.tail, h.e1.2, h.r2.tail, fun g g1 g2 => h.r12 g (own_tail g1) (own_tail g2), fun g g1 => h.l1 g (own_tail g1), fun g g1 => h.l2 g (own_tail g1), h.low, h.le⟩, h.e1.1⟩
end

end Go.Proofs.Ytmnhciildlmjcaa.Tape
