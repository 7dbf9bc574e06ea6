/- What the reference's Hear does with a bit, against the ear: plain facts. -/
import Derived.Test.YtfjfnfofbhikdaaEar7
namespace Go.Proofs.Ytfjfnfofbhikdaa.Tape
open Go.ChangeShapes Go.WideShapes Go.ChangeAt Go.RowKit

/-- What is heard, and behind how many bits. -/
def eatsAt (s : Ear) (p : Nat) : List Bool → List ((Nat × List Int) × Nat)
  | [] => []
  | b :: l => (eat s b).2.toList.map (fun x => (x, p + 1)) ++ eatsAt (eat s b).1 (p + 1) l
theorem eatsAt_fst (s : Ear) (p : Nat) (l : List Bool) : (eatsAt s p l).map Prod.fst = eats s l := by
  induction l generalizing s p with
  | nil => rfl
  | cons b l ih =>
    simp only [eatsAt, eats, List.map_append, ih]
    cases (eat s b).2 <;> simp

/-- The reference's numbers (from, ones) at bit k, and the ear. -/
structure Like (bs : List Bool) (k F O : Nat) (s : Ear) : Prop where
  from_le : F ≤ k
  ones_le : O ≤ k
  run : s.run = min O 7
  lost : s.lost = true → s.cnt = k - F
  found : s.lost = false → s.kept = (bs.drop F).take (k - F) ∧ O ≤ 6
  fine : Fine s
theorem like0 (bs : List Bool) : Like bs 0 0 0 ear0 := ⟨Nat.le_refl _, Nat.le_refl _, rfl, fun _ => rfl, (fun h => by cases h), fine0⟩

theorem Like.kept_len {bs : List Bool} {k F O : Nat} {s : Ear} (h : Like bs k F O s) (hk : k ≤ bs.length) (hl : s.lost = false) : s.kept.length = k - F := by
  rw [(h.found hl).1, List.length_take, List.length_drop]; have := h.from_le; omega
theorem take_next {bs : List Bool} {k F : Nat} {b : Bool} (hF : F ≤ k) (hk : k < bs.length) (hb : bs[k] = b) : (bs.drop F).take (k - F) ++ [b] = (bs.drop F).take (k + 1 - F) := by
  rw [show k + 1 - F = (k - F) + 1 by omega, take_snoc (bs.drop F) (k - F) (by rw [List.length_drop]; omega)]
  congr 1
  simp only [List.getElem_drop, ← hb]
  congr 2; omega

/-- A nought behind six ones, lost. -/
theorem Like.flag {bs : List Bool} {k F O : Nat} {s : Ear} (h : Like bs k F O s) (hl : s.lost = true) (hO : O = 6) : eat s false = ((eat s false).1, none) ∧ Like bs (k + 1) (k + 1) 0 (eat s false).1 ∧ (eat s false).1.lost = false := by
  have e := eat_flag (b := false) hl ⟨rfl, by rw [h.run, hO]; rfl⟩
  have hf := h.fine.eat false
  rw [e] at hf ⊢
  exact ⟨rfl, ⟨Nat.le_refl _, Nat.zero_le _, rfl, (fun h => by cases h), fun _ => ⟨by simp only; rw [h.fine.lost hl]; simp, Nat.zero_le _⟩, hf⟩, rfl⟩
/-- Another bit, lost; no block is over. -/
theorem Like.cnt {bs : List Bool} {k F O : Nat} {s : Ear} (h : Like bs k F O s) {b : Bool} {O' : Nat} (hl : s.lost = true) (hO : b = false → O ≠ 6) (hO' : O' = if b then O + 1 else 0) (hc : k + 1 - F ≠ 128) : eat s b = ((eat s b).1, none) ∧ Like bs (k + 1) F O' (eat s b).1 ∧ (eat s b).1.lost = true := by
  have hrun := h.run
  have hcn := h.lost hl
  have hF := h.from_le
  have hc2 := h.fine.cnt
  have e := eat_cnt (b := b) hl (fun hh => by have := hO hh.1; have := hh.2; omega) (by omega)
  have hf := h.fine.eat b
  rw [e] at hf ⊢
  have ho := h.ones_le
  exact ⟨rfl, ⟨by omega, by subst hO'; cases b <;> simp <;> omega, by subst hO'; cases b <;> simp [nx] <;> omega, fun _ => by simp only; omega, (fun h => by cases h), hf⟩, rfl⟩
/-- Another bit, lost; a block is over. -/
theorem Like.block {bs : List Bool} {k F O : Nat} {s : Ear} (h : Like bs k F O s) {b : Bool} {O' : Nat} (hl : s.lost = true) (hO : b = false → O ≠ 6) (hO' : O' = if b then O + 1 else 0) (hc : k + 1 - F = 128) : eat s b = ((eat s b).1, some (2, [])) ∧ Like bs (k + 1) (k + 1) O' (eat s b).1 ∧ (eat s b).1.lost = true := by
  have hrun := h.run
  have hcn := h.lost hl
  have hF := h.from_le
  have e := eat_block (b := b) hl (fun hh => by have := hO hh.1; have := hh.2; omega) (by omega)
  have hf := h.fine.eat b
  rw [e] at hf ⊢
  have ho := h.ones_le
  exact ⟨rfl, ⟨by omega, by subst hO'; cases b <;> simp <;> omega, by subst hO'; cases b <;> simp [nx] <;> omega, fun _ => by simp, (fun h => by cases h), hf⟩, rfl⟩
/-- The seventh one. -/
theorem Like.seven {bs : List Bool} {k F O : Nat} {s : Ear} (h : Like bs k F O s) (hl : s.lost = false) (hO : O + 1 = 7) : eat s true = ((eat s true).1, none) ∧ Like bs (k + 1) (k + 1) (O + 1) (eat s true).1 ∧ (eat s true).1.lost = true := by
  have hrun := h.run
  have e := eat_lose (b := true) hl (by simp) (.inl (by simp [nx]; omega))
  have hf := h.fine.eat true
  rw [e] at hf ⊢
  have ho := h.ones_le
  exact ⟨rfl, ⟨by omega, by omega, by simp [nx]; omega, fun _ => by simp, (fun h => by cases h), hf⟩, rfl⟩
/-- Another one. -/
theorem Like.one {bs : List Bool} {k F O : Nat} {s : Ear} (h : Like bs k F O s) (hl : s.lost = false) (hO : O + 1 ≠ 7) (hk : k < bs.length) (hb : bs[k] = true) : eat s true = ((eat s true).1, none) ∧ Like bs (k + 1) F (O + 1) (eat s true).1 ∧ (eat s true).1.lost = false := by
  have hrun := h.run
  have h6 := (h.found hl).2
  have e := eat_keep (b := true) hl (by simp) (by simp [nx]; omega)
  have hf := h.fine.eat true
  rw [e] at hf ⊢
  have ho := h.ones_le
  have hF := h.from_le
  exact ⟨rfl, ⟨by omega, by omega, by simp [nx]; omega, (fun h => by cases h), fun _ => ⟨by simp only; rw [(h.found hl).1]; exact take_next hF hk hb, by omega⟩, hf⟩, rfl⟩
/-- A nought too late. -/
theorem Like.late {bs : List Bool} {k F O : Nat} {s : Ear} (h : Like bs k F O s) (hl : s.lost = false) (hO : O ≠ 6) (hk : k < bs.length) (hc : 2687 < k + 1 - F) : eat s false = ((eat s false).1, none) ∧ Like bs (k + 1) (k + 1) 0 (eat s false).1 ∧ (eat s false).1.lost = true := by
  have hrun := h.run
  have hkl := h.kept_len (Nat.le_of_lt hk) hl
  have hF := h.from_le
  have e := eat_lose (b := false) hl (by simp; omega) (.inr ⟨rfl, by omega⟩)
  have hf := h.fine.eat false
  rw [e] at hf ⊢
  exact ⟨rfl, ⟨by omega, by omega, by simp [nx], fun _ => by simp, (fun h => by cases h), hf⟩, rfl⟩
/-- Another nought. -/
theorem Like.nought {bs : List Bool} {k F O : Nat} {s : Ear} (h : Like bs k F O s) (hl : s.lost = false) (hO : O ≠ 6) (hk : k < bs.length) (hb : bs[k] = false) (hc : ¬ 2687 < k + 1 - F) : eat s false = ((eat s false).1, none) ∧ Like bs (k + 1) F 0 (eat s false).1 ∧ (eat s false).1.lost = false := by
  have hrun := h.run
  have hkl := h.kept_len (Nat.le_of_lt hk) hl
  have hF := h.from_le
  have e := eat_keep (b := false) hl (by simp; omega) (by simp [nx]; omega)
  have hf := h.fine.eat false
  rw [e] at hf ⊢
  exact ⟨rfl, ⟨by omega, by omega, by simp [nx], (fun h => by cases h), fun _ => ⟨by simp only; rw [(h.found hl).1]; exact take_next hF hk hb, by omega⟩, hf⟩, rfl⟩
/-- A flag ends what was kept. -/
theorem Like.ends {bs : List Bool} {k F O : Nat} {s : Ear} (h : Like bs k F O s) (hl : s.lost = false) (hO : O = 6) (hk : k < bs.length) (hb : bs[k] = false) : eat s false = ((eat s false).1, hd ((bs.drop F).take (k + 1 - F))) ∧ Like bs (k + 1) (k + 1) 0 (eat s false).1 ∧ (eat s false).1.lost = false := by
  have hF := h.from_le
  have e := eat_end (b := false) hl ⟨rfl, by rw [h.run, hO]; rfl⟩
  have hf := h.fine.eat false
  rw [e] at hf ⊢
  exact ⟨by rw [(h.found hl).1, take_next hF hk hb], ⟨by omega, by omega, rfl, (fun h => by cases h), fun _ => ⟨by simp, by omega⟩, hf⟩, rfl⟩
theorem hd_few {bs : List Bool} {k F : Nat} (h : k + 1 - F ≤ 8) : hd ((bs.drop F).take (k + 1 - F)) = none :=
  hd_none (by rw [List.length_take, List.length_drop]; omega)
theorem hd_many {bs : List Bool} {k F m : Nat} {J : List Int × Nat} (hk : k < bs.length) (hm : k + 1 - F = m + 8) (hm0 : 0 < m) (hJ : jdg ((bs.drop F).take m) = J) : hd ((bs.drop F).take (k + 1 - F)) = if J.2 = 0 then some (0, J.1) else some (1, []) := by
  refine hd_some (n := m + 8) (by rw [List.length_take, List.length_drop]; omega) (by omega) ?_
  rw [show m + 8 - 8 = m by omega, List.take_take, hm, show min m (m + 8) = m by omega, hJ]

theorem at_none {s s2 : Ear} {b : Bool} {bs : List Bool} {k : Nat} {T L : List ((Nat × List Int) × Nat)} (h : T ++ eatsAt s k (bs.drop k) = L) (hd : bs.drop k = b :: bs.drop (k + 1)) (he : eat s b = (s2, none)) : T ++ eatsAt s2 (k + 1) (bs.drop (k + 1)) = L := by
  rw [hd, eatsAt, he] at h; simpa using h
theorem at_some {s s2 : Ear} {b : Bool} {bs : List Bool} {k : Nat} {x : Nat × List Int} {T L : List ((Nat × List Int) × Nat)} (h : T ++ eatsAt s k (bs.drop k) = L) (hd : bs.drop k = b :: bs.drop (k + 1)) (he : eat s b = (s2, some x)) : (T ++ [(x, k + 1)]) ++ eatsAt s2 (k + 1) (bs.drop (k + 1)) = L := by
  rw [hd, eatsAt, he] at h; simpa using h
theorem aft_any {s s2 t : Ear} {b : Bool} {bs : List Bool} {k : Nat} {o : Option (Nat × List Int)} (h : after s (bs.drop k) = t) (hd : bs.drop k = b :: bs.drop (k + 1)) (he : eat s b = (s2, o)) : after s2 (bs.drop (k + 1)) = t := by
  rw [hd, after, he] at h; exact h

theorem info61 : (Try.prog.info? 61).map (fun i => (i.zero, i.size, i.bytes)) = some (some (.agg #[.int .u8 0, .slice none 0 0, .int .i64 0]), 3, 40) := by kernel_rfl
theorem news_three (w : World) (x y z : Value) (t : TypeId) : ∀ j u, [x, y, z][j]? = some u → (w.alloc (.cells #[x, y, z] t)).cell? ((⟨w.heap.size, 0, none⟩ : Addr).add j) = some u :=
  World.news_of_block (heap_alloc_new w (.cells #[x, y, z] t))
/-- A round of the reference in which something is heard. -/
theorem ref_some {w wr w2 w3 : World} {g cap : Nat} {u : Value} {hs : List HV} {x : HV} {o : Obj} (hrow : HRow 61 3 HV.three w.heap.size u hs wr) (hbl : Below w.heap.size w wr) (hb2 : Below wr.heap.size wr w2) (hx : HV.Ok w2 x) (hli : Lies w2 wr.heap.size x.ao)
    (hown : w3.ownsRow w.heap.size 61 3 (.slice (some ⟨g, 0, none⟩) (hs.length + 1) cap) (hs.length + 1) (hs.flatMap HV.three ++ HV.three x)) (hgrow : (w2.alloc o).grownBy w3 u.ownBlock) (hat : u.ownBlock = some g ∨ g = w2.heap.size + 1) :
    HRow 61 3 HV.three w.heap.size (.slice (some ⟨g, 0, none⟩) (hs.length + 1) cap) (hs ++ [x]) w3 ∧ Below w.heap.size w w3 := by
  have hB := below_alloc w2 o
  have hul : ∀ k, u.ownBlock = some k → k < wr.heap.size := fun k hk => (hrow.row.lt k hk).2
  have hw2 := hb2.size
  have hs2 : (w2.alloc o).heap.size = w2.heap.size + 1 := by simp
  refine ⟨((hrow.below hb2).below hB).snoc (hx.far (fun y hy => hB.block _ (hli y hy).2)) (hli.mono hbl.size (by rw [hs2]; omega)) (fun y hy e => by have := hul _ e; have := (hli y hy).1; omega) hgrow hown (fun k hk => ?_), ?_⟩
  · simp only [Value.ownBlock, Option.some.injEq] at hk
    subst hk
    rcases hat with h | h
    · exact .inl h
    · exact .inr (by rw [hs2]; exact Nat.le_of_eq h.symm)
  · exact ((hbl.trans (hb2.mono hbl.size)).trans (hB.mono (by have := hbl.size; omega))).grown hgrow (by rw [hs2]; have := hbl.size; omega) (fun k hk => (hrow.row.lt k hk).1)
end Go.Proofs.Ytfjfnfofbhikdaa.Tape
