/- A Cyclic, and in a block S the reference's Side that is its like. -/
import Derived.Test.YtmnhciildlmjcaaRefD1
import Derived.Test.YtmnhciildlmjcaaActs12
namespace Go.Proofs.Ytmnhciildlmjcaa.Tape
open Go.ChangeShapes Go.WideShapes Go.ChangeAt Go.RowKit
set_option linter.unusedVariables false

/-- A Cyclic beside the reference's messages. -/
structure Bes (w : World) (p hb B : Nat) (T0 : Nat → Prop) (t : Cs) (s : Hs) (lo : Option Addr) (n cap : Nat) (ms : List (List Int)) : Prop where
  cyc : CycIn w p hb B T0 t s
  row : PRow w B lo n cap ms
  apart : ∀ ad, lo = some ad → ¬ (ad.block = p ∨ T0 ad.block)
  le : B ≤ w.heap.size
  lt : ∀ ad, lo = some ad → ad.block < w.heap.size

theorem PRow.mem {w : World} {B : Nat} {lo : Option Addr} {n cap : Nat} {ms : List (List Int)} (h : PRow w B lo n cap ms) : ∀ ad, lo = some ad → ∃ cur, w.heap[ad.block]? = some (.cells cur 30 (0, 0)) := fun ad e => by
  obtain ⟨us, h1, h2⟩ := h
  exact h1.type ad.block (by rw [e]; rfl)

theorem Bes.below {w w' : World} {p hb B : Nat} {T0 : Nat → Prop} {t : Cs} {s : Hs} {lo : Option Addr} {n cap : Nat} {ms : List (List Int)} (h : Bes w p hb B T0 t s lo n cap ms) (hw : Below w.heap.size w w') : Bes w' p hb B T0 t s lo n cap ms :=
  ⟨h.cyc.below hw, h.row.below hw, h.apart, Nat.le_trans h.le hw.size, fun ad e => Nat.lt_of_lt_of_le (h.lt ad e) hw.size⟩

/-- A step of the Cyclic. -/
theorem Bes.step {w w' : World} {p hb B : Nat} {T0 T1 : Nat → Prop} {t t' : Cs} {s s' : Hs} {lo : Option Addr} {n cap : Nat} {ms : List (List Int)} (h : Bes w p hb B T0 t s lo n cap ms) (hc : CycIn w' p hb B T1 t' s') (hF : Foot (fun g => g = p ∨ T0 g) (fun g => g = p ∨ T1 g) w w') : Bes w' p hb B T1 t' s' lo n cap ms := by
  obtain ⟨us, h1, h2⟩ := h.row
  have hk : ∀ g, (Value.slice lo n cap).ownBlock = some g → ∃ ad, lo = some ad ∧ ad.block = g := fun g hg => by
    cases lo with
    | none => simp [Value.ownBlock] at hg
    | some ad => exact ⟨ad, rfl, by simpa [Value.ownBlock] using hg⟩
  refine ⟨hc, ⟨us, h1.at_ fun g hg => ?_, h2.mono fun u x hm => hm.foot hF h.cyc.at_.not5⟩, fun ad e ht => ?_, Nat.le_trans h.le hF.size, fun ad e => Nat.lt_of_lt_of_le (h.lt ad e) hF.size⟩
  · obtain ⟨ad, e, rfl⟩ := hk g hg
    exact hF.block _ (h1.lt _ hg) (h.apart ad e)
  · rcases hF.moved _ ht with e' | e'
    · exact h.apart ad e e'
    · have := h.lt ad e
      omega

/-- What a step of the Cyclic leaves: blocks of other kinds. -/
theorem Bes.other {w w' : World} {p hb B : Nat} {T0 T1 : Nat → Prop} {t : Cs} {s : Hs} {lo : Option Addr} {n cap : Nat} {ms : List (List Int)} (h : Bes w p hb B T0 t s lo n cap ms) (hF : Foot (fun g => g = p ∨ T0 g) (fun g => g = p ∨ T1 g) w w') {S : Nat} {cs : Array Value} {ty : TypeId} (hS : w.heap[S]? = some (.cells cs ty (0, 0))) (h1 : ty ≠ 64) (h2 : ty ≠ 70) (h3 : ty ≠ 30) : w'.heap[S]? = some (.cells cs ty (0, 0)) :=
  (hF.block S (heap_lt hS) (h.cyc.at_.not S cs ty hS h1 h2 h3)).trans hS

theorem CycIn.offt {w w' : World} {p hb B r : Nat} {T0 : Nat → Prop} {t : Cs} {s : Hs} {cs : Array Value} {ty : TypeId} (h : CycIn w p hb B T0 t s) (hg : w.grownBy w' (some r)) (hr : w.heap[r]? = some (.cells cs ty (0, 0))) (h1 : ty ≠ 64) (h2 : ty ≠ 70) (h3 : ty ≠ 30) (h5 : ty ≠ 5) : CycIn w' p hb B T0 t s := by
  have hk : ∀ (k : Nat) cur ty', w.heap[k]? = some (.cells cur ty' (0, 0)) → ty' ≠ ty → w'.heap[k]? = w.heap[k]? := fun k cur ty' hk hty => hg.block k (heap_lt hk) (fun e => by
    simp only [Option.some.injEq] at e
    subst e
    rw [hr] at hk
    simp only [Option.some.injEq, Obj.cells.injEq] at hk
    exact hty hk.2.1.symm)
  refine ⟨(hk p _ _ h.cells (fun e => h1 e.symm)).trans h.cells, h.hold.stay (fun k hT => ?_) (fun k cur h5' => hk k _ _ h5' (fun e => h5 e.symm)), h.lowp, h.lowh, h.last, h.pl⟩
  obtain ⟨cur, ty', hh, ht⟩ := h.hold.kind k hT
  exact hk k _ _ hh (by rcases ht with rfl | rfl; exact fun e => h2 e.symm; exact fun e => h3 e.symm)

/-- The reference's messages turn. -/
theorem Bes.turn {w w' : World} {p hb B : Nat} {T0 : Nat → Prop} {t : Cs} {s : Hs} {lo lo' : Option Addr} {n cap n' cap' : Nat} {ms ms' : List (List Int)} (h : Bes w p hb B T0 t s lo n cap ms) (hw : Below w.heap.size w w') (hr : PRow w' B lo' n' cap' ms') (hl : ∀ ad, lo' = some ad → (∃ ad', lo = some ad' ∧ ad'.block = ad.block) ∨ w.heap.size ≤ ad.block) : Bes w' p hb B T0 t s lo' n' cap' ms' := by
  have h' := h.below hw
  refine ⟨h'.cyc, hr, fun ad e ht => ?_, h'.le, fun ad e => ?_⟩
  · rcases hl ad e with ⟨ad', e', eb⟩ | e'
    · exact h.apart ad' e' (eb ▸ ht)
    · have := (h.cyc.at_.lt _ ht).2
      omega
  · obtain ⟨cur, hc⟩ := hr.mem ad e
    exact heap_lt hc

/-- A Cyclic, and in block S the Side that is its like. -/
structure Twin (w : World) (p hb B S : Nat) (m : Int) (T0 : Nat → Prop) (t : Cs) (s : Hs) (lo : Option Addr) (n cap : Nat) : Prop where
  bes : Bes w p hb B T0 t s lo n cap (s.sent ++ s.next)
  blk : w.heap[S]? = some (.cells (sideC (.slice lo n cap) s.sent.length s.first m 5000 (tlC t)) 28 (0, 0))
  most : s.most = m
  oct : s.oct = 5000
def Twins (w : World) (p hb B S : Nat) (m : Int) : Prop := ∃ T0 t s lo n cap, Twin w p hb B S m T0 t s lo n cap

theorem Twin.below {w w' : World} {p hb B S : Nat} {m : Int} {T0 : Nat → Prop} {t : Cs} {s : Hs} {lo : Option Addr} {n cap : Nat} (h : Twin w p hb B S m T0 t s lo n cap) (hb' : Below w.heap.size w w') : Twin w' p hb B S m T0 t s lo n cap :=
  ⟨h.bes.below hb', (hb'.block _ (heap_lt h.blk)).trans h.blk, h.most, h.oct⟩

theorem Twin.small {w : World} {p hb B S : Nat} {m : Int} {T0 : Nat → Prop} {t : Cs} {s : Hs} {lo : Option Addr} {n cap : Nat} (h : Twin w p hb B S m T0 t s lo n cap) (hm : m ≤ 20) : n ≤ 20 ∧ s.sent.length ≤ 20 ∧ s.first < 128 ∧ t.pl ≤ 128 ∧ 0 ≤ t.last ∧ t.last < 256 ∧ n = s.sent.length + s.next.length := by
  have hf := h.bes.cyc.hold.fine
  have hn := h.bes.row.len.1
  rw [List.length_append] at hn
  have hr := hf.room
  have hmo := h.most
  have hl := h.bes.cyc.last
  have := hf.first
  have := h.bes.cyc.pl
  refine ⟨?_, ?_, by omega, by omega, hl.1, by omega, hn⟩ <;> rcases hr with hr | hr <;> omega

/-- A new Side is stored where the old one was. -/
theorem Twin.step {w3 : World} {p hb B S : Nat} {m a f : Int} {T0 : Nat → Prop} {t : Cs} {s : Hs} {lo : Option Addr} {n cap : Nat} {cs : Array Value} (hbes : Bes w3 p hb B T0 t s lo n cap (s.sent ++ s.next)) (hS : w3.heap[S]? = some (.cells cs 28 (0, 0))) (hcs : cs.size = 18) (hBS : B ≤ S) (hm : s.most = m) (ho : s.oct = 5000) (ha : a = s.sent.length) (hf : f = s.first) :
    ∃ w5, (stS (.pointer (some ⟨S, 0, none⟩)) (.agg (sideC (.slice lo n cap) a f m 5000 (tlC t)))).run Try.prog w3 = .ok () w5 ∧ Twin w5 p hb B S m T0 t s lo n cap ∧ Below B w3 w5 ∧ w3.grownBy w5 (some S) := by
  subst ha hf
  have hg := putS_gb w3 S (sideC (.slice lo n cap) s.sent.length s.first m 5000 (tlC t))
  have hcyc := hbes.cyc.offt hg hS (by decide) (by decide) (by decide) (by decide)
  have hrow := hbes.row.off hg hS (by decide) (by decide)
  refine ⟨_, st_side hS hcs (sideC_size _ _ _ _ _ _) (sideC_one _ _ _ _ _ _ _ _), ⟨⟨hcyc, hrow, hbes.apart, Nat.le_trans hbes.le hg.size, fun ad e => Nat.lt_of_lt_of_le (hbes.lt ad e) hg.size⟩, putS_heap hS (by rw [hcs, sideC_size]), hm, ho⟩, ⟨hg.os, hg.tape, hg.output, hg.size, fun k hk => hg.block k (by have := hbes.le; omega) (fun e => by simp at e; omega)⟩, hg⟩

theorem knows_bhd (s : Hs) (b : Int) (hf : s.first < 128) (h0 : 0 ≤ b) : (s.knows b = true → bhd s.sent.length s.first b = s.upTo b ∧ s.upTo b ≤ s.sent.length) ∧ (s.knows b = false → bhd s.sent.length s.first b = -1) := by
  unfold Hs.knows Hs.upTo bhd
  refine ⟨fun h => ?_, fun h => ?_⟩
  · have h' := of_decide_eq_true h
    rw [if_neg (by omega), if_neg (by omega)]
    omega
  · have h' := of_decide_eq_false h
    by_cases hb : b < 0 ∨ 127 < b
    · rw [if_pos hb]
    · rw [if_neg hb, if_pos (by omega)]
end Go.Proofs.Ytmnhciildlmjcaa.Tape
