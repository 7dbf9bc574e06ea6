/- A law's State: where it lies, what beside it stays; each call of it, so told. -/
import Derived.Test.YtldjglmelbkngaaGreatState14
import Derived.Test.YtldjglmelbkngaaGreatState8
import Derived.Test.YtldjglmelbkngaaGreatCyc8
import Derived.Test.YtldjglmelbkngaaGreatState18
namespace Go.Proofs.YtldjglmelbkngaaGreat.Tape
open Go.ChangeShapes Go.WideShapes Go.ChangeAt Go.RowKit
set_option linter.unusedVariables false

/-- It stays, whatever a call of a State does to that State's blocks. -/
def Stays (K : World → (Nat → Prop) → Prop) : Prop := ∀ w w' T T', Foot T T' w w' → K w T → K w' T'
def noK : World → (Nat → Prop) → Prop := fun _ _ => True
/-- A unit's box beside a State. -/
def Box (g : Nat) (u : Array Value) : World → (Nat → Prop) → Prop := fun w T => w.heap[g]? = some (.cells u 32 (0, 0)) ∧ ¬ T g
/-- What was told, beside a State. -/
def Tld (v : Value) (us : List (Array Value)) : World → (Nat → Prop) → Prop := fun w T => TRow w v us ∧ ∀ g, v.ownBlock = some g → ¬ T g
def andK (K K' : World → (Nat → Prop) → Prop) : World → (Nat → Prop) → Prop := fun w T => K w T ∧ K' w T

theorem stays_no : Stays noK := fun _ _ _ _ _ _ => trivial
theorem stays_and {K K' : World → (Nat → Prop) → Prop} (h : Stays K) (h' : Stays K') : Stays (andK K K') := fun w w' T T' hf hk => ⟨h _ _ _ _ hf hk.1, h' _ _ _ _ hf hk.2⟩
theorem stays_box (g : Nat) (u : Array Value) : Stays (Box g u) := fun w w' T T' hf hk =>
  ⟨(hf.block _ (heap_lt hk.1) hk.2).trans hk.1, fun e => (hf.moved g e).elim hk.2 fun e => by have := heap_lt hk.1; omega⟩
theorem stays_told (v : Value) (us : List (Array Value)) : Stays (Tld v us) := fun w w' T T' hf hk =>
  ⟨hk.1.at_ fun g hg => hf.block _ (hk.1.lt g hg) (hk.2 g hg), fun g hg e => (hf.moved g e).elim (hk.2 g hg) fun e => by have := hk.1.lt g hg; omega⟩

/-- A law's State. -/
structure LA (w0 : World) (P : Pl) (k : Nat) (x : St) (K : World → (Nat → Prop) → Prop) (w : World) : Prop where
  at_ : ∃ T, StAt w P k T x ∧ K w T
  stays : Stays K
  below : Below w0.heap.size w0 w
  low : w0.heap.size ≤ P.B

variable {w0 w w' : World} {P : Pl} {k k' m : Nat} {x x' : St} {K K' : World → (Nat → Prop) → Prop}

theorem LA.room (h : LA w0 P k x K w) (hr : Room k' x) : LA w0 P k' x K w := by
  obtain ⟨⟨T, hS, hK⟩, hs, hb, hl⟩ := h
  exact ⟨⟨T, hS.room hr, hK⟩, hs, hb, hl⟩
theorem LA.mono (h : LA w0 P k x K w) (hk : k' ≤ k) : LA w0 P k' x K w := by
  obtain ⟨⟨T, hS, hK⟩, hs, hb, hl⟩ := h
  exact ⟨⟨T, hS.mono hk, hK⟩, hs, hb, hl⟩
theorem LA.has (h : LA w0 P k x K w) : Room k x := h.at_.elim fun T e => e.1.1
theorem LA.eq (h : LA w0 P k x K w) (e : x = x') : LA w0 P k x' K w := e ▸ h
theorem LA.keep (h : LA w0 P k x K w) (hb : Below w.heap.size w w') : LA w0 P k x K w' := by
  obtain ⟨⟨T, hS, hK⟩, hs, hb0, hl⟩ := h
  exact ⟨⟨T, hS.keep hb, hs _ _ _ _ (Foot.of_below hb) hK⟩, hs, hb0.trans (below_le hb hb0.size), hl⟩
theorem LA.base {w1 : World} (h : LA w1 P k x K w) (hb : Below w0.heap.size w0 w1) : LA w0 P k x K w := by
  obtain ⟨hA, hs, hb1, hl⟩ := h
  exact ⟨hA, hs, hb.trans (below_le hb1 hb.size), Nat.le_trans hb.size hl⟩
theorem LA.to (h : LA w0 P k x K w) (hs : Stays K') (hi : ∀ w T, K w T → K' w T) : LA w0 P k x K' w := by
  obtain ⟨⟨T, hS, hK⟩, -, hb, hl⟩ := h
  exact ⟨⟨T, hS, hi _ _ hK⟩, hs, hb, hl⟩
theorem LA.no (h : LA w0 P k x K w) : LA w0 P k x noK w := h.to stays_no fun _ _ _ => trivial

theorem LA.call {f : Nat} {args : Array Value} {ret : Value} (hc : SC P m f args x ret x') (h : LA w0 P (k + m) x K w) : Calls Tryz.prog f args w fun e w' => e = .returned ret ∧ LA w0 P k x' K w' := by
  obtain ⟨⟨T, hS, hK⟩, hs, hb, hl⟩ := h
  refine (hc k w T hS).mono ?_
  rintro e w' ⟨rfl, T', h', hf⟩
  exact ⟨rfl, ⟨T', h', hs _ _ _ _ hf hK⟩, hs, hS.low hf hl hb, hl⟩
theorem LA.tick (h : LA w0 P (k + 16) x K w) : Calls Tryz.prog 28 #[.pointer (some ⟨P.b, 0, none⟩)] w fun e w' => e = .returned (.tuple #[]) ∧ LA w0 P k x.tick K w' := LA.call (tick_st P x) h
theorem LA.damage (h : LA w0 P (k + 3) x K w) : Calls Tryz.prog 23 #[.pointer (some ⟨P.b, 0, none⟩)] w fun e w' => e = .returned (.tuple #[]) ∧ LA w0 P k (x.count true) K w' := LA.call (damage_any P x) h
theorem LA.order (h : LA w0 P (k + 2) x K w) (o : Int) (ao : Option Addr) (n cap : Nat) (p : List Int) (hn : p.length = n) (hl : n ≤ 1000000) (hr : Reads w ao (p.map (.int .u8))) (hp : ∀ y ∈ p, 0 ≤ y ∧ y ≤ 255) :
    Calls Tryz.prog 27 #[.pointer (some ⟨P.b, 0, none⟩), .agg #[.int .u8 o, .slice ao n cap]] w fun e w' => e = .returned (.int .i64 (x.ordE o p)) ∧ LA w0 P k (x.ord o p) K w' := by
  obtain ⟨⟨T, hS, hK⟩, hs, hb, hlo⟩ := h
  refine (order_any P x o ao n cap p k w T hS hn hl hr hp).mono ?_
  rintro e w' ⟨rfl, T', h', hf⟩
  exact ⟨rfl, ⟨T', h', hs _ _ _ _ hf hK⟩, hs, hS.low hf hlo hb, hlo⟩
/-- An order without octets. -/
theorem LA.order0 (h : LA w0 P (k + 2) x K w) (o : Int) :
    Calls Tryz.prog 27 #[.pointer (some ⟨P.b, 0, none⟩), .agg #[.int .u8 o, .slice none 0 0]] w fun e w' => e = .returned (.int .i64 (x.ordE o [])) ∧ LA w0 P k (x.ord o []) K w' :=
  h.order o none 0 0 [] rfl (by omega) (Reads.nil _ _) (by simp)
/-- A unit that came. -/
theorem LA.hear (h : LA w0 P (k + 10) x K w) (b f kk st : Int) (ub uf wd : Bool) (ao : Option Addr) (n cap : Nat) (xs : List Int) (h0 : 0 ≤ b) (h1 : b ≤ 255) (hm : xs.length = n) (hinf : ∀ T, (∀ g, T g → P.B ≤ g ∧ g < w.heap.size) → K w T → InfoIn w T ao cap xs) :
    Calls Tryz.prog 24 #[.pointer (some ⟨P.b, 0, none⟩), .agg #[.int .u8 b, .int .u8 f, .bool ub, .bool uf, .int .u8 kk, .int .u8 st, .bool wd, .slice ao n cap]] w fun e w' => e = .returned (.tuple #[]) ∧ ∃ q, LA w0 P k (x.hear b f kk st ub uf q) (andK K fun w T => x.hgets b f kk ub uf = true → MsgAt w T q xs) w' := by
  obtain ⟨⟨T, hS, hK⟩, hs, hb, hlo⟩ := h
  refine (hear_any P x b f kk st ub uf wd ao n cap xs h0 h1 k w T hS hm (hinf T hS.lt.1 hK)).mono ?_
  rintro e w' ⟨rfl, T', q, h', hf, hm⟩
  exact ⟨rfl, q, ⟨T', h', hs _ _ _ _ hf hK, hm⟩, stays_and hs fun w w' T T' hf hk e => (hk e).foot hf, hS.low hf hlo hb, hlo⟩
/-- A unit without information. -/
theorem LA.hear0 (h : LA w0 P (k + 10) x K w) (b f kk st : Int) (ub uf wd : Bool) (h0 : 0 ≤ b) (h1 : b ≤ 255) :
    Calls Tryz.prog 24 #[.pointer (some ⟨P.b, 0, none⟩), .agg #[.int .u8 b, .int .u8 f, .bool ub, .bool uf, .int .u8 kk, .int .u8 st, .bool wd, .slice none 0 0]] w fun e w' => e = .returned (.tuple #[]) ∧ ∃ q, LA w0 P k (x.hear b f kk st ub uf q) K w' := by
  refine (h.hear b f kk st ub uf wd none 0 0 [] h0 h1 rfl fun T _ _ => ⟨Reads.nil _ _, by simp, fun _ => rfl, .inl rfl⟩).mono ?_
  rintro e w' ⟨rfl, q, hA⟩
  exact ⟨rfl, q, hA.to h.stays fun _ _ e => e.1⟩
theorem LA.next (h : LA w0 P k x K w) : Calls Tryz.prog 21 #[.pointer (some ⟨P.b, 0, none⟩)] w fun e w' => UOut e x.nk x.ns ∧ LA w0 P k x.next K w' := by
  obtain ⟨⟨T, hS, hK⟩, hs, hb, hlo⟩ := h
  refine (next_st P x k w T hS).mono ?_
  rintro e w' ⟨hu, T', h', hf⟩
  exact ⟨hu, ⟨T', h', hs _ _ _ _ hf hK⟩, hs, hS.low hf hlo hb, hlo⟩
def St.took (x : St) : St := { x with told := [] }
theorem took_s (x : St) : x.took.s = x.s := rfl
theorem took_hs (x : St) : x.took.hs = x.hs := rfl
theorem took_A (x : St) : x.took.A = x.A := rfl
theorem took_fl (x : St) : x.took.fl = x.fl := rfl
theorem LA.told (h : LA w0 P k x K w) : Calls Tryz.prog 19 #[.pointer (some ⟨P.b, 0, none⟩)] w fun e w' => ∃ v, e = .returned v ∧ LA w0 P k x.took (andK K (Tld v x.told)) w' := by
  obtain ⟨⟨T, hS, hK⟩, hs, hb, hlo⟩ := h
  refine (told_any P x k w T hS).mono ?_
  rintro e w' ⟨v, T', rfl, h', hf, ht, ha⟩
  exact ⟨v, rfl, ⟨T', h', hs _ _ _ _ hf hK, ht, fun g hg => (ha g hg).2⟩, stays_and hs (stays_told _ _), hS.low hf hlo hb, hlo⟩
theorem LA.fails (h : LA w0 P k x K w) : Calls Tryz.prog 20 #[.pointer (some ⟨P.b, 0, none⟩)] w fun e w' => e = .returned (.int .i64 x.fl) ∧ w' = w := h.at_.elim fun T hS => fails_any P x k w T hS.1
theorem LA.wrong (h : LA w0 P k x K w) : Calls Tryz.prog 26 #[.pointer (some ⟨P.b, 0, none⟩)] w fun e w' => e = .returned (.int .i64 x.lk.n) ∧ w' = w := h.at_.elim fun T hS => wrong_any P x k w T hS.1

/-- What its cells hold. -/
theorem LA.all (h : LA w0 P k x K w) :
    (w.cell? ⟨P.b, 0, none⟩ = some (.int .u8 x.s) ∧ w.cell? ⟨P.b, 1, none⟩ = some (.pointer (some ⟨P.c, 0, none⟩)) ∧ w.cell? ⟨P.b, 3, none⟩ = some (.pointer (some ⟨P.j, 0, none⟩)) ∧ w.cell? ⟨P.b, 4, none⟩ = some (.iface (wT P.cy) (.pointer (some ⟨P.p, 0, none⟩))) ∧
      w.cell? ⟨P.b, 5, none⟩ = some (.bool x.own) ∧ w.cell? ⟨P.b, 6, none⟩ = some (.bool x.their) ∧ w.cell? ⟨P.j, 0, none⟩ = some (.bool x.J.own)) := by
  obtain ⟨⟨T, ⟨hr, T0, v, rfl, hi⟩, hK⟩, hs, hb, hl⟩ := h
  obtain ⟨⟨c0, c1, c2, c3, c4, c5, c6, -⟩, -⟩ := hi.all
  exact ⟨c0, c1, c3, c4, c5, c6, hi.ja.all.1.1⟩
theorem LA.on (h : LA w0 P k x K w) (i : Int) : Calls Tryz.prog 30 #[.pointer (some ⟨P.c, 0, none⟩), .int .i64 i] w fun e w' => e = .returned (.bool (lft x.A.xs i != 0)) ∧ w' = w := by
  obtain ⟨⟨T, ⟨hr, T0, v, rfl, hi⟩, hK⟩, hs, hb, hl⟩ := h
  exact on_any P.c x.A.xs i w hi.al.clock
/-- A new unit's box. -/
theorem LA.box {u : Array Value} (h : LA w0 P k x K w) (hB : Below w.heap.size w w') (hh : w'.heap[w.heap.size]? = some (.cells u 32 (0, 0))) : LA w0 P k x (andK K (Box w.heap.size u)) w' := by
  obtain ⟨⟨T, hS, hK⟩, hs, hb0, hl⟩ := h
  exact ⟨⟨T, hS.keep hB, hs _ _ _ _ (Foot.of_below hB) hK, hh, fun e => by have := (hS.lt.1 _ e).2; omega⟩, stays_and hs (stays_box _ _), hb0.trans (below_le hB hb0.size), hl⟩
theorem LA.boxed {g : Nat} {u : Array Value} (h : LA w0 P k x (andK K (Box g u)) w) : w.heap[g]? = some (.cells u 32 (0, 0)) := h.at_.elim fun T e => e.2.2.1
/-- One of its fields is stored. -/
theorem LA.put {g : Nat} {u : Array Value} (h : LA w0 P k x (andK K (Box g u)) w) (j : Nat) (y : Value) (hg : w0.heap.size ≤ g) (hS0 : Stays K) (hK : ∀ T, K w T → K (w.setCell ⟨g, j, none⟩ y) T) : LA w0 P k x (andK K (Box g (u.toList.set j y).toArray)) (w.setCell ⟨g, j, none⟩ y) := by
  obtain ⟨⟨T, hS, hk, hx, hn⟩, hs, hb0, hl⟩ := h
  have hx' : w.heap[g]? = some (.cells u.toList.toArray 32 (0, 0)) := hx
  exact ⟨⟨T, hS.box (gb_set _) hn hx, hK T hk, row_set hx' j y, hn⟩, stays_and hS0 (stays_box _ _), gb_below (gb_set _) hb0 hg hb0.size, hl⟩
/-- What was told, element by element. -/
theorem LA.read {v : Value} {us : List (Array Value)} (h : LA w0 P k x (andK K (Tld v us)) w) : ∃ ao cap, v = .slice ao us.length cap ∧ ∀ i (u : Array Value), us[i]? = some u → ∃ g, ao = some ⟨g, 0, none⟩ ∧ ∀ j, j < 3 → w.cell? ⟨g, i * 3 + j, none⟩ = u[j]? := by
  obtain ⟨⟨T, hS, -, hrow, -⟩, -⟩ := h
  obtain ⟨ao, cap, rfl⟩ := hrow.form
  exact ⟨ao, cap, rfl, hrow.cell.2⟩
theorem LA.tcell {g n cap : Nat} {us : List (Array Value)} (h : LA w0 P k x (andK K (Tld (.slice (some ⟨g, 0, none⟩) n cap) us)) w) (i : Nat) (u : Array Value) (hu : us[i]? = some u) : ∀ j, j < 3 → w.cell? ⟨g, i * 3 + j, none⟩ = u[j]? := by
  obtain ⟨⟨T, hS, -, hrow, -⟩, -⟩ := h
  obtain ⟨g', e, hc⟩ := hrow.cell.2 i u hu
  simp only [Option.some.injEq, Addr.mk.injEq, and_true] at e
  subst e
  exact hc
theorem LA.hold (h : LA w0 P k x K w) : Calls Tryz.prog (fHold P.cy) #[.pointer (some ⟨P.p, 0, none⟩)] w fun e w' => e = .returned (.pointer (some ⟨P.hb, 0, none⟩)) ∧ w' = w := by
  obtain ⟨⟨T, ⟨hr, T0, v, rfl, hi⟩, hK⟩, hs, hb, hl⟩ := h
  exact hi.hold_
theorem WayIn.holdAt {p hb B : Nat} {T0 : Nat → Prop} {x : Wt} {s : Hs} (h : WayIn w p hb B T0 x s) : HoldAt w hb B T0 s := by
  cases x with
  | inl t => exact (show BasIn w p hb B T0 t s from h).hold
  | inr t => exact (show CycIn w p hb B T0 t s from h).hold
theorem LA.holdAt (h : LA w0 P k x K w) : ∃ T0, HoldAt w P.hb P.B T0 x.hs := by
  obtain ⟨⟨T, ⟨hr, T0, v, rfl, hi⟩, hK⟩, hs, hb, hl⟩ := h
  exact ⟨T0, hi.way.holdAt⟩
theorem LA.sent (h : LA w0 P k x K w) : Calls Tryz.prog 29 #[.pointer (some ⟨P.hb, 0, none⟩)] w fun e w' => e = .returned (.int .i64 x.hs.sent.length) ∧ w' = w := h.holdAt.elim fun T0 hh => sent_any P.hb P.B T0 x.hs w hh
theorem LA.nexts (h : LA w0 P k x K w) : Calls Tryz.prog 32 #[.pointer (some ⟨P.hb, 0, none⟩)] w fun e w' => e = .returned (.int .i64 x.hs.next.length) ∧ w' = w := h.holdAt.elim fun T0 hh => next_any P.hb P.B T0 x.hs w hh
theorem Room.setC {k : Nat} {x : St} (h : Room k x) (xs : List Int) : Room k (x.setC xs) := h.same rfl rfl rfl rfl rfl rfl
end Go.Proofs.YtldjglmelbkngaaGreat.Tape
