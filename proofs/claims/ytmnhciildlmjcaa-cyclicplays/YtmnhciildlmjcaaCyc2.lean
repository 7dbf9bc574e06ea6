/- Units in memory; the contracts of a Cyclic's unit and Fill. -/
import Derived.Test.YtmnhciildlmjcaaCyc1
import Derived.Deep.Cut
import Derived.Deep.RegionHeld
namespace Go.Proofs.Ytmnhciildlmjcaa.Tape
open Go.ChangeShapes Go.WideShapes Go.ChangeAt Go.RowKit
set_option linter.unusedVariables false

/-- A unit's values. -/
def uC (b f : Int) (bib fib : Bool) (k : Int) (x : Value) : Array Value := #[.int .u8 b, .int .u8 f, .bool bib, .bool fib, .int .u8 k, .int .u8 0, .bool false, x]
/-- A unit that is loaded, or stored, whole, under names of their own. -/
def ldU (v : Value) : Sem Value := Instr.loadAt 32 v
theorem ldU_def (v : Value) : Instr.loadAt 32 v = ldU v := rfl
def stU (p v : Value) : Sem Unit := Instr.storeAt 32 p v
theorem stU_def (p v : Value) : Instr.storeAt 32 p v = stU p v := rfl
def putU (w : World) (B : Nat) (cs : Array Value) : World := w.setCells B 0 cs.toList

theorem info37 : (Try.prog.info? 32).map (·.size) = some 8 := by kernel_rfl

theorem range_u {w : World} {B : Nat} {cs : Array Value} {t : TypeId} (h : w.heap[B]? = some (.cells cs t (0, 0))) : w.rangeAt B 0 cs.toList := by
  have := World.rangeAt_of_block h 0 cs.size
  simpa using this

theorem ld_unit {w : World} {B : Nat} {cs : Array Value} (h : w.heap[B]? = some (.cells cs 32 (0, 0))) (hs : cs.size = 8) : (ldU (.pointer (some ⟨B, 0, none⟩))).run Try.prog w = .ok (.agg cs) w ∧ (loadVar 32 ⟨B, 0, none⟩).run Try.prog w = .ok (.agg cs) w := by
  constructor
  · show (Instr.loadAt 32 (.pointer (some ⟨B, 0, none⟩))).run Try.prog w = .ok (.agg cs) w
    have := run_loadAt_mid (P := Try.prog) w B 0 32 cs.toList _ (range_u h) Try.underlying32 rfl (by rw [info37]; simp [hs])
    simpa using this
  · have := run_loadVar_mid (P := Try.prog) w B 0 32 cs.toList _ (range_u h) Try.underlying32 rfl (by rw [info37]; simp [hs])
    simpa using this

theorem st_unit {w : World} {B : Nat} {cs ds : Array Value} (h : w.heap[B]? = some (.cells cs 32 (0, 0))) (hs : cs.size = 8) (hd : ds.size = 8) (h1 : ds.all (·.oneCell') = true) : (stU (.pointer (some ⟨B, 0, none⟩)) (.agg ds)).run Try.prog w = .ok () (putU w B ds) := by
  refine run_storeAt_mid (P := Try.prog) w B 0 32 ds (fun j hj => ?_) (by rw [info37, hd]) h1
  have h' : w.heap[B]? = some (.cells cs.toList.toArray 32 (0, 0)) := by simpa using h
  refine ⟨?_, Lib.frozen_of_heap h' _⟩
  rw [Lib.cell_of_heap h', Nat.zero_add]
  simp only [List.getElem?_toArray]
  rw [List.getElem?_eq_getElem (by simp only [Array.length_toList]; omega)]
  rfl

theorem heap_scu_other (w : World) (b : Nat) (vs : List Value) : ∀ o k, k ≠ b → (w.setCells b o vs).heap[k]? = w.heap[k]? := by
  induction vs generalizing w with
  | nil => intro o k _; rfl
  | cons v vs ih =>
    intro o k hk
    simp only [World.setCells]
    rw [ih _ _ _ hk, Below.heap_setCell _ _ _ _ hk]

theorem heap_scu_same (b : Nat) (t : TypeId) (vs : List Value) : ∀ (w : World) (pre cs post : List Value), w.heap[b]? = some (.cells (pre ++ cs ++ post).toArray t (0, 0)) → cs.length = vs.length → (w.setCells b pre.length vs).heap[b]? = some (.cells (pre ++ vs ++ post).toArray t (0, 0)) := by
  induction vs with
  | nil =>
    intro w pre cs post h hl
    obtain rfl : cs = [] := List.eq_nil_of_length_eq_zero (by simpa using hl)
    exact h
  | cons v vs ih =>
    intro w pre cs post h hl
    cases cs with
    | nil => simp at hl
    | cons c cs =>
      simp only [World.setCells]
      have h2 := row_set h pre.length v
      have e : (pre ++ c :: cs ++ post).set pre.length v = (pre ++ [v]) ++ cs ++ post := by simp
      rw [e] at h2
      have := ih _ (pre ++ [v]) cs post h2 (by simpa using hl)
      simpa using this

theorem scu_size (w : World) (b : Nat) (vs : List Value) : ∀ o, (w.setCells b o vs).heap.size = w.heap.size ∧ (w.setCells b o vs).os = w.os ∧ (w.setCells b o vs).tape = w.tape ∧ (w.setCells b o vs).output = w.output := by
  induction vs generalizing w with
  | nil => intro o; exact ⟨rfl, rfl, rfl, rfl⟩
  | cons v vs ih =>
    intro o
    simp only [World.setCells]
    obtain ⟨h1, h2, h3, h4⟩ := ih (w.setCell ⟨b, o, none⟩ v) (o + 1)
    exact ⟨h1.trans (by simp [World.setCell]), h2, h3, h4⟩

theorem putU_heap {w : World} {B : Nat} {cs ds : Array Value} {t : TypeId} (h : w.heap[B]? = some (.cells cs t (0, 0))) (hs : cs.size = ds.size) : (putU w B ds).heap[B]? = some (.cells ds t (0, 0)) := by
  have := heap_scu_same B t ds.toList w [] cs.toList [] (by simpa using h) (by simpa using hs)
  simpa [putU] using this
theorem setCells_gb (w : World) (B o : Nat) (vs : List Value) : w.grownBy (w.setCells B o vs) (some B) := by
  obtain ⟨h1, h2, h3, h4⟩ := scu_size w B vs o
  exact ⟨h2, h3, h4, Nat.le_of_eq h1.symm, fun i _ hi => heap_scu_other w B vs o i (fun e => hi (by rw [e]))⟩
theorem putU_gb (w : World) (B : Nat) (ds : Array Value) : w.grownBy (putU w B ds) (some B) := setCells_gb w B 0 _
theorem gb_below {w0 w w' : World} {B C : Nat} (hg : w.grownBy w' (some B)) (h : Below C w0 w) (hB : C ≤ B) (hC : C ≤ w.heap.size) : Below C w0 w' :=
  h.trans ⟨hg.os, hg.tape, hg.output, hg.size, fun k hk => hg.block k (by omega) (fun e => by simp at e; omega)⟩

/-- A unit's zero cells. -/
def zeroU : Array Value := #[.int .u8 0, .int .u8 0, .bool false, .bool false, .int .u8 0, .int .u8 0, .bool false, .slice none 0 0]

theorem uC_one (b f : Int) (bib fib : Bool) (k : Int) (ao : Option Addr) (n c : Nat) : (uC b f bib fib k (.slice ao n c)).all (·.oneCell') = true := by simp [uC, Value.oneCell']

/-- The result's block is written: of what was there nothing turns. -/
theorem Foot.new {T T' : Nat → Prop} {w w1 w2 : World} {r : Nat} (h : Foot T T' w w1) (hg : w1.grownBy w2 (some r)) (hr : w.heap.size ≤ r) : Foot T T' w w2 :=
  ⟨hg.os.trans h.os, hg.tape.trans h.tape, hg.output.trans h.output, Nat.le_trans h.size hg.size, fun k hk hn => (hg.block k (Nat.lt_of_lt_of_le hk h.size) (fun e => by simp at e; omega)).trans (h.block k hk hn), h.moved⟩
theorem CycIn.off {w w' : World} {p hb B r : Nat} {T0 : Nat → Prop} {t : Cs} {s : Hs} {cs : Array Value} (h : CycIn w p hb B T0 t s) (hg : w.grownBy w' (some r)) (hr : w.heap[r]? = some (.cells cs 32 (0, 0))) : CycIn w' p hb B T0 t s := by
  have hk : ∀ (k : Nat) cur ty, w.heap[k]? = some (.cells cur ty (0, 0)) → ty ≠ 32 → w'.heap[k]? = w.heap[k]? := fun k cur ty hk hty => hg.block k (heap_lt hk) (fun e => by
    simp only [Option.some.injEq] at e
    subst e
    rw [hr] at hk
    simp only [Option.some.injEq, Obj.cells.injEq] at hk
    exact hty hk.2.1.symm)
  refine ⟨(hk p _ _ h.cells (by decide)).trans h.cells, h.hold.stay (fun k hT => ?_) (fun k cur h5 => hk k _ _ h5 (by decide)), h.lowp, h.lowh, h.last, h.pl⟩
  obtain ⟨cur, ty, hh, ht⟩ := h.hold.kind k hT
  exact hk k _ _ hh (by rcases ht with rfl | rfl <;> decide)

/-- A new block for a unit. -/
theorem new_unit (w : World) : ∃ W, W = w.alloc (.cells #[.int .u8 0, .int .u8 0, .bool false, .bool false, .int .u8 0, .int .u8 0, .bool false, .slice none 0 0] 32) ∧ Below w.heap.size w W ∧ W.heap[w.heap.size]? = some (.cells zeroU 32 (0, 0)) :=
  ⟨_, rfl, (Below.refl w.heap.size w).alloc (Nat.le_refl _) _, heap_alloc_new w _⟩

/-- What is known of a message that waits. -/
theorem HoldAt.each {w : World} {b B : Nat} {T : Nat → Prop} {s : Hs} (h : HoldAt w b B T s) : (∀ x ∈ s.sent, 3 ≤ x.length ∧ x.length ≤ 273 ∧ ∀ y ∈ x, 0 ≤ y ∧ y ≤ 255) ∧ ∀ x ∈ s.next, 3 ≤ x.length ∧ x.length ≤ 273 ∧ ∀ y ∈ x, 0 ≤ y ∧ y ≤ 255 := by
  obtain ⟨sv, nv, -, hi⟩ := h
  have key : ∀ (us : List Value) (xs : List (List Int)), Each (HMsg w B) us xs → ∀ x ∈ xs, 3 ≤ x.length ∧ x.length ≤ 273 ∧ ∀ y ∈ x, 0 ≤ y ∧ y ≤ 255 := fun us xs he x hx => by
    obtain ⟨k, hk, rfl⟩ := List.getElem_of_mem hx
    exact (he.get k (by rw [he.len]; exact hk) hk).2
  obtain ⟨us, -, h1⟩ := hi.sent
  obtain ⟨un, -, h2⟩ := hi.next
  exact ⟨key _ _ h1, key _ _ h2⟩

theorem HMsg.below {w w' : World} {B : Nat} {u : Value} {xs : List Int} (h : HMsg w B u xs) (hb : Below w.heap.size w w') : HMsg w' B u xs := h.at_ fun g cur _ hg => hb.block g (heap_lt hg)
theorem HMsg.foot {w w' : World} {B : Nat} {T T' : Nat → Prop} {u : Value} {xs : List Int} (h : HMsg w B u xs) (hf : Foot T T' w w') (h5 : ∀ (g : Nat) cur, w.heap[g]? = some (.cells cur 5 (0, 0)) → ¬ T g) : HMsg w' B u xs := h.at_ fun g cur _ hg => hf.block g (heap_lt hg) (h5 g cur hg)
theorem HMsg.off {w w' : World} {B r : Nat} {u : Value} {xs : List Int} {cs : Array Value} {ty : TypeId} (h : HMsg w B u xs) (hg : w.grownBy w' (some r)) (hr : w.heap[r]? = some (.cells cs ty (0, 0))) (hty : ty ≠ 5) : HMsg w' B u xs := h.at_ fun g cur _ hgg => hg.block g (heap_lt hgg) fun e => by
  simp only [Option.some.injEq] at e
  subst e
  rw [hr] at hgg
  simp only [Option.some.injEq, Obj.cells.injEq] at hgg
  exact hty hgg.2.1

attribute [local go_sem ↓] ldU_def stU_def

set_option maxRecDepth 100000 in
set_option maxHeartbeats 1000000 in
theorem unit_any (p hb B : Nat) (T0 : Nat → Prop) (t : Cs) (s : Hs) (k f : Int) (ao : Option Addr) (n c : Nat) (w : World) (h : CycIn w p hb B T0 t s) :
    Calls Try.prog 38 #[.pointer (some ⟨p, 0, none⟩), .int .u8 k, .int .u8 f, .slice ao n c] w fun e w' => e = .returned (.agg (uC t.last f true true k (.slice ao n c))) ∧ Below w.heap.size w w' := by
  obtain ⟨W, hW, hB, hh⟩ := new_unit w
  obtain ⟨⟨-, -, -, c3, -⟩, -⟩ := cyc_cells (h.below hB).cells
  have hst := st_unit (ds := uC t.last f true true k (.slice ao n c)) hh rfl rfl (uC_one _ _ _ _ _ _ _ _)
  have hB2 := gb_below (putU_gb W w.heap.size (uC t.last f true true k (.slice ao n c))) hB (Nat.le_refl _) hB.size
  have hld := (ld_unit (putU_heap (ds := uC t.last f true true k (.slice ao n c)) hh rfl) rfl).2
  generalize putU W w.heap.size (uC t.last f true true k (.slice ao n c)) = W2 at *
  have HL : Hid ((loadVar 32 ⟨w.heap.size, 0, none⟩).run Try.prog W2 = .ok (.agg (uC t.last f true true k (.slice ao n c))) W2) := hld
  clear h hh hld hB
  unfold uC at hst
  go_enter Try.func38, Try.ntmps38
  go_upto_region 1 with fail
  rw [← hW]
  clear hW
  go_wp2
  refine bodyPost_ret (v := .agg (uC t.last f true true k (.slice ao n c))) (by simp [results, Try.results38, asAddr, HL.out]) rfl ?_
  exact ⟨rfl, hB2⟩

set_option maxRecDepth 100000 in
set_option maxHeartbeats 1000000 in
theorem fill_any (p hb B : Nat) (T0 : Nat → Prop) (t : Cs) (s : Hs) (w : World) (h : CycIn w p hb B T0 t s) :
    Calls Try.prog 22 #[.pointer (some ⟨p, 0, none⟩)] w fun e w' => e = .returned (.agg (uC t.last s.last true true 0 (.slice none 0 0))) ∧ Below w.heap.size w w' := by
  obtain ⟨W, hW, hB, hh⟩ := new_unit w
  have h1 := h.below hB
  obtain ⟨⟨c0, -⟩, -⟩ := cyc_cells h1.cells
  have hla := last_any hb B T0 s _ h1.hold
  have hun := unit_any p hb B T0 t s 0 s.last none 0 0 _ h1
  have hs := hB.size
  clear h h1
  go_enter Try.func22, Try.ntmps22
  go_upto_region 1 with fail
  rw [← hW]
  clear hW
  go_wp2_with (first | (go_at_call 45; refine hla.mono ?_; rintro e w1 ⟨rfl, hw1⟩; obtain rfl := hw1.symm; clear hw1) | (go_at_call 38; refine hun.mono ?_; rintro e w2 ⟨rfl, hB2⟩; have hh2 := (hB2.block _ (heap_lt hh)).trans hh; have hst := st_unit (ds := uC t.last s.last true true 0 (.slice none 0 0)) hh2 rfl rfl (uC_one _ _ _ _ _ _ _ _)))
  have hld := (ld_unit (putU_heap (ds := uC t.last s.last true true 0 (.slice none 0 0)) hh2 rfl) rfl).2
  refine bodyPost_ret (v := .agg (uC t.last s.last true true 0 (.slice none 0 0))) (by simp [results, Try.results22, asAddr, hld]) rfl ?_
  have hB3 := hB.trans (below_le hB2 hs)
  exact ⟨rfl, gb_below (putU_gb _ _ _) hB3 (Nat.le_refl _) hB3.size⟩
end Go.Proofs.Ytmnhciildlmjcaa.Tape
