/- The contract of an Ear's Bit in one: it eats the bit. Rows of what is heard: plain facts. -/
import Derived.Test.YtfjfnfofbhikdaaEar4
namespace Go.Proofs.Ytfjfnfofbhikdaa.Tape
open Go.ChangeShapes Go.WideShapes Go.ChangeAt Go.RowKit

/-- What Bit leaves. -/
def Ate (w w' : World) (B b : Nat) (v : Value) (r : Ear × Option (Nat × List Int)) (e : Ending) : Prop := ∃ v', Told w w' b v' r.2 e ∧ EarAt w' B b v' r.1 ∧ Fr b v w w' ∧ Moved w v v'
theorem Kept.ate {w w' : World} {B b : Nat} {v f c r : Value} {o : Option (Nat × List Int)} {ks : List Bool} {e : Ending} {s : Ear} (hB : B ≤ b) (h : Kept w w' B b v o f c r ks e) (hf : f = .bool (!s.lost)) (hc : c = .int .i64 s.cnt) (hr : r = .int .i64 s.run) (hk : ks = s.kept) (hs : Fine s) : Ate w w' B b v (s, o) e := by
  obtain ⟨v', ht, hE, hown, hvb, hF, hm⟩ := h
  subst hf hc hr hk
  exact ⟨v', ht, ⟨hB, hE, hown, hvb, hs⟩, hF, hm⟩

theorem bit_any (B b : Nat) (v : Value) (s : Ear) (on : Bool) (w : World) (h : EarAt w B b v s) : Calls Try.prog 27 #[.pointer (some ⟨b, 0, none⟩), .bool on] w fun e w' => Ate w w' B b v (eat s on) e := by
  have hfe := h.fine.eat on
  obtain ⟨hB, hE, hown, hvb, ⟨hr, hc, hk, hlk⟩⟩ := h
  obtain ⟨l, k, c, r⟩ := s
  simp only at hE hown hr hc hk hlk
  cases l
  · -- found
    have hkr : k.length ≤ 2700 := by omega
    have hE' : w.heap[b]? = some (.cells #[.bool true, v, .int .i64 c, .int .i64 r] 48 (0, 0)) := hE
    by_cases hf : on = false ∧ r = 6
    · obtain ⟨rfl, rfl⟩ := hf
      rw [eat_end (s := ⟨false, k, c, 6⟩) rfl ⟨rfl, rfl⟩] at hfe ⊢
      refine (bit_found6 B b k.length v (.int .i64 c) (.bool true) (.int .i64 c) (hd (k ++ [false])) k [] w hE' hown hvb (fun W hW hoW => keep_end B b k.length _ _ _ _ false k W rfl hkr hW hoW hvb hB)).mono ?_
      exact fun e w' h => h.ate (s := ⟨false, [], c, 0⟩) hB rfl rfl rfl rfl hfe
    · by_cases hc7 : nx r on = 7 ∨ (on = false ∧ 2687 < k.length + 1)
      · rw [eat_lose (s := ⟨false, k, c, r⟩) rfl hf hc7] at hfe ⊢
        cases on
        · refine (bit_found0 B b k.length r v (.int .i64 c) (.bool false) (.int .i64 0) none k [] w hE' hr (fun e => hf ⟨rfl, e⟩) hown hvb (fun W hW hoW => keep_lose B b k.length _ _ _ _ false k W rfl hkr hW hoW hvb hB hc7)).mono ?_
          exact fun e w' h => h.ate (s := ⟨true, [], 0, nx r false⟩) hB rfl rfl rfl rfl hfe
        · refine (bit_found1 B b k.length r v (.int .i64 c) (.bool false) (.int .i64 0) none k [] w hE' hr hown hvb (fun W hW hoW => keep_lose B b k.length _ _ _ _ true k W rfl hkr hW hoW hvb hB hc7)).mono ?_
          exact fun e w' h => h.ate (s := ⟨true, [], 0, nx r true⟩) hB rfl rfl rfl rfl hfe
      · rw [eat_keep (s := ⟨false, k, c, r⟩) rfl hf hc7] at hfe ⊢
        cases on
        · refine (bit_found0 B b k.length r v (.int .i64 c) (.bool true) (.int .i64 c) none k (k ++ [false]) w hE' hr (fun e => hf ⟨rfl, e⟩) hown hvb (fun W hW hoW => keep_on B b k.length _ _ _ _ false k W rfl hkr hW hoW hvb hB hc7)).mono ?_
          exact fun e w' h => h.ate (s := ⟨false, k ++ [false], c, nx r false⟩) hB rfl rfl rfl rfl hfe
        · refine (bit_found1 B b k.length r v (.int .i64 c) (.bool true) (.int .i64 c) none k (k ++ [true]) w hE' hr hown hvb (fun W hW hoW => keep_on B b k.length _ _ _ _ true k W rfl hkr hW hoW hvb hB hc7)).mono ?_
          exact fun e w' h => h.ate (s := ⟨false, k ++ [true], c, nx r true⟩) hB rfl rfl rfl rfl hfe
  · -- lost
    obtain rfl : k = [] := hlk rfl
    have hE' : w.heap[b]? = some (.cells #[.bool false, v, .int .i64 c, .int .i64 r] 48 (0, 0)) := hE
    by_cases hf : on = false ∧ r = 6
    · obtain ⟨rfl, rfl⟩ := hf
      rw [eat_flag (s := ⟨true, [], c, 6⟩) rfl ⟨rfl, rfl⟩] at hfe ⊢
      refine (bit_lost6 B b 0 v (.int .i64 c) (.bool true) (.int .i64 c) none [] [] w hE' hown hvb (fun W hW hoW => (seek_flag b _ _ _ _ W hW).mono (fun e w' h => seek_kept hoW hvb h))).mono ?_
      exact fun e w' h => h.ate (s := ⟨false, [], c, 0⟩) hB rfl rfl rfl rfl hfe
    · by_cases hcc : c + 1 < 128
      · rw [eat_cnt (s := ⟨true, [], c, r⟩) rfl hf hcc] at hfe ⊢
        cases on
        · refine (bit_lost0 B b 0 r v (.int .i64 c) (.bool false) (.int .i64 (c + 1 : Nat)) none [] [] w hE' hr (fun e => hf ⟨rfl, e⟩) hown hvb (fun W hW hoW => (seek_cnt b _ _ _ c W hcc hW).mono (fun e w' h => seek_kept hoW hvb h))).mono ?_
          exact fun e w' h => h.ate (s := ⟨true, [], c + 1, nx r false⟩) hB rfl rfl rfl rfl hfe
        · refine (bit_lost1 B b 0 r v (.int .i64 c) (.bool false) (.int .i64 (c + 1 : Nat)) none [] [] w hE' hr hown hvb (fun W hW hoW => (seek_cnt b _ _ _ c W hcc hW).mono (fun e w' h => seek_kept hoW hvb h))).mono ?_
          exact fun e w' h => h.ate (s := ⟨true, [], c + 1, nx r true⟩) hB rfl rfl rfl rfl hfe
      · rw [eat_block (s := ⟨true, [], c, r⟩) rfl hf hcc] at hfe ⊢
        cases on
        · refine (bit_lost0 B b 0 r v (.int .i64 c) (.bool false) (.int .i64 0) (some (2, [])) [] [] w hE' hr (fun e => hf ⟨rfl, e⟩) hown hvb (fun W hW hoW => (seek_block b _ _ _ c W hcc hc hW).mono (fun e w' h => seek_kept hoW hvb h))).mono ?_
          exact fun e w' h => h.ate (s := ⟨true, [], 0, nx r false⟩) hB rfl rfl rfl rfl hfe
        · refine (bit_lost1 B b 0 r v (.int .i64 c) (.bool false) (.int .i64 0) (some (2, [])) [] [] w hE' hr hown hvb (fun W hW hoW => (seek_block b _ _ _ c W hcc hc hW).mono (fun e w' h => seek_kept hoW hvb h))).mono ?_
          exact fun e w' h => h.ate (s := ⟨true, [], 0, nx r true⟩) hB rfl rfl rfl rfl hfe

/-! ### Rows of what is heard -/
structure HV where
  kind : Nat
  octs : List Int
  pos : Nat
  ao : Option Addr
  n : Nat
  cap : Nat
def HV.two (h : HV) : List Value := [.int .u8 h.kind, .slice h.ao h.n h.cap]
def HV.three (h : HV) : List Value := [.int .u8 h.kind, .slice h.ao h.n h.cap, .int .i64 h.pos]
def HV.said (h : HV) : Nat × List Int := (h.kind, h.octs)
def HV.told (h : HV) : (Nat × List Int) × Nat := ((h.kind, h.octs), h.pos)
structure HV.Ok (w : World) (h : HV) : Prop where
  len : h.octs.length = h.n
  cap : h.n ≤ h.cap
  reads : Reads w h.ao (h.octs.map (.int .u8))
  nil : h.ao = none → h.cap = 0
/-- The slice u, a row of the call's own from B on, holds hs. -/
structure HRow (e sz : Nat) (cf : HV → List Value) (B : Nat) (u : Value) (hs : List HV) (w : World) : Prop where
  row : w.ownsRow B e sz u hs.length (hs.flatMap cf)
  each : ∀ h ∈ hs, HV.Ok w h ∧ Lies w B h.ao ∧ ∀ x, h.ao = some x → u.ownBlock ≠ some x.block
/-- None of it is the ear's. -/
structure Sep (b : Nat) (v u : Value) (hs : List HV) : Prop where
  each : ∀ h ∈ hs, ∀ x, h.ao = some x → x.block ≠ b ∧ v.ownBlock ≠ some x.block
  far : ∀ g, u.ownBlock = some g → g ≠ b ∧ v.ownBlock ≠ some g
theorem HRow.nil (e sz : Nat) (cf : HV → List Value) (B : Nat) (w : World) : HRow e sz cf B (.slice none 0 0) [] w := ⟨World.ownsRow_nil _ _ _ _, by simp⟩
theorem Sep.nil (b : Nat) (v : Value) : Sep b v (.slice none 0 0) [] := ⟨by simp, by simp [Value.ownBlock]⟩
theorem Reads.far {w w' : World} {ao : Option Addr} {vs : List Value} (h : Reads w ao vs) (hk : ∀ x, ao = some x → w'.heap[x.block]? = w.heap[x.block]?) : Reads w' ao vs := fun k u hu => by
  obtain ⟨g, off, e, hc⟩ := h k u hu
  exact ⟨g, off, e, (World.cell?_of_block (a := ⟨g, off + k, none⟩) (hk ⟨g, off, none⟩ e)).trans hc⟩
theorem HV.Ok.far {w w' : World} {h : HV} (k : HV.Ok w h) (hk : ∀ x, h.ao = some x → w'.heap[x.block]? = w.heap[x.block]?) : HV.Ok w' h := ⟨k.len, k.cap, k.reads.far hk, k.nil⟩
theorem HRow.far {e sz : Nat} {cf : HV → List Value} {B : Nat} {u : Value} {hs : List HV} {w w' : World} (h : HRow e sz cf B u hs w) (hs' : w.heap.size ≤ w'.heap.size)
    (h1 : ∀ g, g < w.heap.size → u.ownBlock = some g → w'.heap[g]? = w.heap[g]?) (h2 : ∀ h ∈ hs, ∀ x, h.ao = some x → x.block < w.heap.size → w'.heap[x.block]? = w.heap[x.block]?) : HRow e sz cf B u hs w' :=
  ⟨owns_far h.row (fun g hg => h1 g (h.row.lt g hg).2 hg), fun x hx => by
    obtain ⟨k1, k2, k3⟩ := h.each x hx
    exact ⟨k1.far (fun y hy => h2 x hx y hy (k2 y hy).2), k2.mono (Nat.le_refl _) hs', k3⟩⟩
theorem HRow.below {e sz : Nat} {cf : HV → List Value} {B : Nat} {u : Value} {hs : List HV} {w w' : World} (h : HRow e sz cf B u hs w) (hb : Below w.heap.size w w') : HRow e sz cf B u hs w' :=
  h.far hb.size (fun g hg _ => hb.block g hg) (fun _ _ x _ hx => hb.block x.block hx)
theorem HRow.fr {e sz : Nat} {cf : HV → List Value} {B b : Nat} {u v : Value} {hs : List HV} {w w' : World} (h : HRow e sz cf B u hs w) (hp : Sep b v u hs) (hf : Fr b v w w') : HRow e sz cf B u hs w' :=
  h.far hf.size (fun g hg hu => hf.block g hg (hp.far g hu).1 (hp.far g hu).2) (fun y hy x hx hl => hf.block x.block hl (hp.each y hy x hx).1 (hp.each y hy x hx).2)
theorem Sep.moved {e sz : Nat} {cf : HV → List Value} {B b : Nat} {u v v' : Value} {hs : List HV} {w : World} (hp : Sep b v u hs) (h : HRow e sz cf B u hs w) (hm : Moved w v v') : Sep b v' u hs :=
  ⟨fun y hy x hx => ⟨(hp.each y hy x hx).1, fun e => by
      rcases hm _ e with e | e
      · exact (hp.each y hy x hx).2 e
      · have := ((h.each y hy).2.1 x hx).2; omega⟩, fun g hg => ⟨(hp.far g hg).1, fun e => by
      rcases hm _ e with e | e
      · exact (hp.far g hg).2 e
      · have := (h.row.lt g hg).2; omega⟩⟩
/-- One more. -/
theorem HRow.snoc {e sz : Nat} {cf : HV → List Value} {B : Nat} {u u' : Value} {hs : List HV} {x : HV} {w w' : World} (h : HRow e sz cf B u hs w) (hx : HV.Ok w x) (hl : Lies w B x.ao) (hd : ∀ y, x.ao = some y → u.ownBlock ≠ some y.block)
    (hg : w.grownBy w' u.ownBlock) (hrow : w'.ownsRow B e sz u' (hs.length + 1) (hs.flatMap cf ++ cf x)) (hu : ∀ g, u'.ownBlock = some g → u.ownBlock = some g ∨ w.heap.size ≤ g) : HRow e sz cf B u' (hs ++ [x]) w' := by
  refine ⟨by simpa using hrow, fun y hy => ?_⟩
  have key : ∀ y : HV, HV.Ok w y → Lies w B y.ao → (∀ z, y.ao = some z → u.ownBlock ≠ some z.block) → HV.Ok w' y ∧ Lies w' B y.ao ∧ ∀ z, y.ao = some z → u'.ownBlock ≠ some z.block := fun y k1 k2 k3 =>
    ⟨k1.far (fun z hz => hg.block z.block (k2 z hz).2 (fun e => k3 z hz e.symm)), k2.mono (Nat.le_refl _) hg.size, fun z hz e => by
      rcases hu _ e with e | e
      · exact k3 z hz e
      · have := (k2 z hz).2; omega⟩
  rcases List.mem_append.1 hy with hy | hy
  · obtain ⟨k1, k2, k3⟩ := h.each y hy
    exact key y k1 k2 k3
  · simp at hy; subst hy; exact key y hx hl hd
theorem EarAt.far' {w w' : World} {B b : Nat} {v : Value} {s : Ear} (h : EarAt w B b v s) (h1 : w'.heap[b]? = w.heap[b]?) (h2 : ∀ g, v.ownBlock = some g → w'.heap[g]? = w.heap[g]?) : EarAt w' B b v s :=
  ⟨h.base, h1.trans h.cells, owns_far h.row h2, h.far, h.fine⟩
theorem EarAt.grown {w w' : World} {B b : Nat} {v : Value} {s : Ear} {r : Option Nat} (h : EarAt w B b v s) (hg : w.grownBy w' r) (hb : r ≠ some b) (hv : ∀ g, v.ownBlock = some g → r ≠ some g) : EarAt w' B b v s :=
  h.far' (hg.block b h.lt (fun e => hb e.symm)) (fun g hgg => hg.block g (h.row.lt g hgg).2 (fun e => hv g hgg e.symm))
end Go.Proofs.Ytfjfnfofbhikdaa.Tape
