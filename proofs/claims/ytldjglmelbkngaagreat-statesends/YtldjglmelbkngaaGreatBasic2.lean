/- The contracts of a Basic's goTo, unit, Fill. -/
import Derived.Test.YtldjglmelbkngaaGreatBasic1
import Derived.Deep.Cut
import Derived.Deep.RegionHeld
namespace Go.Proofs.YtldjglmelbkngaaGreat.Tape
open Go.ChangeShapes Go.WideShapes Go.ChangeAt Go.RowKit
set_option linter.unusedVariables false

/-- .. with another place. -/
def Bs.to (t : Bs) (n : Nat) (place : Int) : Bs := { t with again := if (n : Int) ≤ place then -1 else place }

set_option maxRecDepth 100000 in
set_option maxHeartbeats 400000 in
theorem goTo_any (p hb B : Nat) (T0 : Nat → Prop) (t : Bs) (s : Hs) (place : Int) (w : World) (h : BasIn w p hb B T0 t s) (h0 : -1 ≤ place) :
    Calls Tryz.prog 164 #[.pointer (some ⟨p, 0, none⟩), .int .i64 place] w fun e w' => e = .returned (.tuple #[]) ∧ BasIn w' p hb B T0 (t.to s.sent.length place) s ∧ Foot (fun g => g = p ∨ T0 g) (fun g => g = p ∨ T0 g) w w' := by
  obtain ⟨⟨c0, c1, c2, c3, c4, c5, c6, c7, c8, c9⟩, hz⟩ := bas_cells h.cells
  have z5 := hz 5
  have hse := sent_any hb B T0 s w h.hold
  have hwin := h.hold.fine.win
  have hfin : ∀ a, a = (t.to s.sent.length place).again → BasIn (w.setCell ⟨p, 5, none⟩ (.int .i64 a)) p hb B T0 (t.to s.sent.length place) s ∧ Foot (fun g => g = p ∨ T0 g) (fun g => g = p ∨ T0 g) w (w.setCell ⟨p, 5, none⟩ (.int .i64 a)) := fun a ha => by
    subst ha
    refine h.set (gb_set _) (row_set (bas_row h.cells) 5 _) h.last ?_
    unfold Bs.to
    simp only
    split <;> omega
  have HF : Hid (∀ a, a = (t.to s.sent.length place).again → BasIn (w.setCell ⟨p, 5, none⟩ (.int .i64 a)) p hb B T0 (t.to s.sent.length place) s ∧ Foot (fun g => g = p ∨ T0 g) (fun g => g = p ∨ T0 g) w (w.setCell ⟨p, 5, none⟩ (.int .i64 a))) := hfin
  obtain ⟨n, hn⟩ : ∃ n, n = s.sent.length := ⟨_, rfl⟩
  have HN : Hid (n = s.sent.length) := hn
  rw [← hn] at hse
  clear h hz hfin hn hwin
  by_cases hc : (n : Int) ≤ place
  · go_enter Tryz.func164, Tryz.ntmps164
    go_wp2_with (go_at_call 29; refine hse.mono ?_; rintro e w1 ⟨rfl, hw1⟩; obtain rfl := hw1.symm; clear hw1)
    refine bodyPost_end (results_none rfl _ _ _) rfl ?_
    refine ⟨rfl, HF.out _ ?_⟩
    unfold Bs.to
    rw [← HN.out, if_pos hc]
  · go_enter Tryz.func164, Tryz.ntmps164
    go_wp2_with (go_at_call 29; refine hse.mono ?_; rintro e w1 ⟨rfl, hw1⟩; obtain rfl := hw1.symm; clear hw1)
    refine bodyPost_end (results_none rfl _ _ _) rfl ?_
    refine ⟨rfl, HF.out _ ?_⟩
    unfold Bs.to
    rw [← HN.out, if_neg (by omega)]

/-- A unit's values. -/
def uC (b f : Int) (bib fib : Bool) (k : Int) (x : Value) : Array Value := #[.int .u8 b, .int .u8 f, .bool bib, .bool fib, .int .u8 k, .int .u8 0, .bool false, x]
/-- A unit that is loaded, or stored, whole, under names of their own. -/
def ldU (v : Value) : Sem Value := Instr.loadAt 32 v
theorem ldU_def (v : Value) : Instr.loadAt 32 v = ldU v := rfl
def stU (p v : Value) : Sem Unit := Instr.storeAt 32 p v
theorem stU_def (p v : Value) : Instr.storeAt 32 p v = stU p v := rfl
def putU (w : World) (B : Nat) (cs : Array Value) : World := w.setCells B 0 cs.toList

theorem info37 : (Tryz.prog.info? 32).map (·.size) = some 8 := by kernel_rfl

theorem range_all {w : World} {B : Nat} {cs : Array Value} {t : TypeId} (h : w.heap[B]? = some (.cells cs t (0, 0))) : w.rangeAt B 0 cs.toList := by
  have := World.rangeAt_of_block h 0 cs.size
  simpa using this

theorem ld_unit {w : World} {B : Nat} {cs : Array Value} (h : w.heap[B]? = some (.cells cs 32 (0, 0))) (hs : cs.size = 8) : (ldU (.pointer (some ⟨B, 0, none⟩))).run Tryz.prog w = .ok (.agg cs) w ∧ (loadVar 32 ⟨B, 0, none⟩).run Tryz.prog w = .ok (.agg cs) w := by
  constructor
  · show (Instr.loadAt 32 (.pointer (some ⟨B, 0, none⟩))).run Tryz.prog w = .ok (.agg cs) w
    have := run_loadAt_mid (P := Tryz.prog) w B 0 32 cs.toList _ (range_all h) Tryz.underlying32 rfl (by rw [info37]; simp [hs])
    simpa using this
  · have := run_loadVar_mid (P := Tryz.prog) w B 0 32 cs.toList _ (range_all h) Tryz.underlying32 rfl (by rw [info37]; simp [hs])
    simpa using this

theorem st_unit {w : World} {B : Nat} {cs ds : Array Value} (h : w.heap[B]? = some (.cells cs 32 (0, 0))) (hs : cs.size = 8) (hd : ds.size = 8) (h1 : ds.all (·.oneCell') = true) : (stU (.pointer (some ⟨B, 0, none⟩)) (.agg ds)).run Tryz.prog w = .ok () (putU w B ds) := by
  refine run_storeAt_mid (P := Tryz.prog) w B 0 32 ds (fun j hj => ?_) (by rw [info37, hd]) h1
  have h' : w.heap[B]? = some (.cells cs.toList.toArray 32 (0, 0)) := by simpa using h
  refine ⟨?_, Lib.frozen_of_heap h' _⟩
  rw [Lib.cell_of_heap h', Nat.zero_add]
  simp only [List.getElem?_toArray]
  rw [List.getElem?_eq_getElem (by simp only [Array.length_toList]; omega)]
  rfl

theorem heap_setCells_other (w : World) (b : Nat) (vs : List Value) : ∀ o k, k ≠ b → (w.setCells b o vs).heap[k]? = w.heap[k]? := by
  induction vs generalizing w with
  | nil => intro o k _; rfl
  | cons v vs ih =>
    intro o k hk
    simp only [World.setCells]
    rw [ih _ _ _ hk, Below.heap_setCell _ _ _ _ hk]

theorem heap_setCells_same (b : Nat) (t : TypeId) (vs : List Value) : ∀ (w : World) (pre cs post : List Value), w.heap[b]? = some (.cells (pre ++ cs ++ post).toArray t (0, 0)) → cs.length = vs.length → (w.setCells b pre.length vs).heap[b]? = some (.cells (pre ++ vs ++ post).toArray t (0, 0)) := by
  induction vs with
  | nil =>
    intro w pre cs post h hl
    obtain rfl : cs = [] := List.eq_nil_of_length_eq_zero (by simpa using hl)
    exact h
  | cons v vs ih =>
    intro w pre cs post h hl
    cases cs with
    | nil => simp at hl
    | cons c cs =>
      simp only [World.setCells]
      have h2 := row_set h pre.length v
      have e : (pre ++ c :: cs ++ post).set pre.length v = (pre ++ [v]) ++ cs ++ post := by simp
      rw [e] at h2
      have := ih _ (pre ++ [v]) cs post h2 (by simpa using hl)
      simpa using this

theorem setCells_size (w : World) (b : Nat) (vs : List Value) : ∀ o, (w.setCells b o vs).heap.size = w.heap.size ∧ (w.setCells b o vs).os = w.os ∧ (w.setCells b o vs).tape = w.tape ∧ (w.setCells b o vs).output = w.output := by
  induction vs generalizing w with
  | nil => intro o; exact ⟨rfl, rfl, rfl, rfl⟩
  | cons v vs ih =>
    intro o
    simp only [World.setCells]
    obtain ⟨h1, h2, h3, h4⟩ := ih (w.setCell ⟨b, o, none⟩ v) (o + 1)
    exact ⟨h1.trans (by simp [World.setCell]), h2, h3, h4⟩

theorem putU_heap {w : World} {B : Nat} {cs ds : Array Value} {t : TypeId} (h : w.heap[B]? = some (.cells cs t (0, 0))) (hs : cs.size = ds.size) : (putU w B ds).heap[B]? = some (.cells ds t (0, 0)) := by
  have := heap_setCells_same B t ds.toList w [] cs.toList [] (by simpa using h) (by simpa using hs)
  simpa [putU] using this
theorem setCells_gb (w : World) (B o : Nat) (vs : List Value) : w.grownBy (w.setCells B o vs) (some B) := by
  obtain ⟨h1, h2, h3, h4⟩ := setCells_size w B vs o
  exact ⟨h2, h3, h4, Nat.le_of_eq h1.symm, fun i _ hi => heap_setCells_other w B vs o i (fun e => hi (by rw [e]))⟩
theorem putU_gb (w : World) (B : Nat) (ds : Array Value) : w.grownBy (putU w B ds) (some B) := setCells_gb w B 0 _
theorem gb_below {w0 w w' : World} {B C : Nat} (hg : w.grownBy w' (some B)) (h : Below C w0 w) (hB : C ≤ B) (hC : C ≤ w.heap.size) : Below C w0 w' :=
  h.trans ⟨hg.os, hg.tape, hg.output, hg.size, fun k hk => hg.block k (by omega) (fun e => by simp at e; omega)⟩

/-- A unit's zero cells. -/
def zeroU : Array Value := #[.int .u8 0, .int .u8 0, .bool false, .bool false, .int .u8 0, .int .u8 0, .bool false, .slice none 0 0]

theorem uC_one (b f : Int) (bib fib : Bool) (k : Int) (ao : Option Addr) (n c : Nat) : (uC b f bib fib k (.slice ao n c)).all (·.oneCell') = true := by simp [uC, Value.oneCell']

attribute [local go_sem ↓] ldU_def stU_def

set_option maxRecDepth 100000 in
set_option maxHeartbeats 1000000 in
theorem unit_any (p hb B : Nat) (T0 : Nat → Prop) (t : Bs) (s : Hs) (k f : Int) (ao : Option Addr) (n c : Nat) (w : World) (h : BasIn w p hb B T0 t s) :
    Calls Tryz.prog 165 #[.pointer (some ⟨p, 0, none⟩), .int .u8 k, .int .u8 f, .slice ao n c] w fun e w' => e = .returned (.agg (uC t.last f t.bib t.fib k (.slice ao n c))) ∧ Below w.heap.size w w' := by
  obtain ⟨⟨c0, c1, c2, c3, c4, c5, c6, c7, c8, c9⟩, hz⟩ := bas_cells h.cells
  have hB := ((Below.refl w.heap.size w).alloc (Nat.le_refl _) (.cells zeroU 32)).drew
  have hh : ((w.alloc (.cells zeroU 32)).drew).heap[w.heap.size]? = some (.cells zeroU 32 (0, 0)) := heap_alloc_new w (.cells zeroU 32)
  have hst := st_unit (ds := uC t.last f t.bib t.fib k (.slice ao n c)) hh rfl rfl (uC_one _ _ _ _ _ _ _ _)
  have hB2 := gb_below (putU_gb (w.alloc (.cells zeroU 32)).drew w.heap.size (uC t.last f t.bib t.fib k (.slice ao n c))) hB (Nat.le_refl _) hB.size
  have hld := (ld_unit (putU_heap (ds := uC t.last f t.bib t.fib k (.slice ao n c)) hh rfl) rfl).2
  have HS : Hid (∀ W, Below w.heap.size w W → W.cell? ⟨p, 3, none⟩ = some (.int .u8 t.last) ∧ W.cell? ⟨p, 2, none⟩ = some (.bool t.bib) ∧ W.cell? ⟨p, 1, none⟩ = some (.bool t.fib)) :=
    fun W hB => ⟨(hB.cell (World.block_lt_of_cell? w _ c3)).trans c3, (hB.cell (World.block_lt_of_cell? w _ c2)).trans c2, (hB.cell (World.block_lt_of_cell? w _ c1)).trans c1⟩
  generalize putU (w.alloc (.cells zeroU 32)).drew w.heap.size (uC t.last f t.bib t.fib k (.slice ao n c)) = W2 at *
  have HL : Hid ((loadVar 32 ⟨w.heap.size, 0, none⟩).run Tryz.prog W2 = .ok (.agg (uC t.last f t.bib t.fib k (.slice ao n c))) W2) := hld
  clear h c0 c1 c2 c3 c4 c5 c6 c7 c8 c9 hz hh hld
  unfold zeroU at *
  unfold uC at hst
  go_enter Tryz.func165, Tryz.ntmps165
  go_wp2_with fail
  go_region_held (fun W => W.cell? ⟨p, 3, none⟩ = some (.int .u8 t.last) ∧ W.cell? ⟨p, 2, none⟩ = some (.bool t.bib) ∧ W.cell? ⟨p, 1, none⟩ = some (.bool t.fib)) ((refine HS.out _ ?_; assumption)) (fail)
  go_wp2
  refine bodyPost_ret (v := .agg (uC t.last f t.bib t.fib k (.slice ao n c))) (by simp [results, Tryz.results165, asAddr, HL.out]) rfl ?_
  exact ⟨rfl, hB2⟩

/-- The result's block is written: of what was there nothing turns. -/
theorem Foot.new {T T' : Nat → Prop} {w w1 w2 : World} {r : Nat} (h : Foot T T' w w1) (hg : w1.grownBy w2 (some r)) (hr : w.heap.size ≤ r) : Foot T T' w w2 :=
  ⟨hg.os.trans h.os, hg.tape.trans h.tape, hg.output.trans h.output, Nat.le_trans h.size hg.size, fun k hk hn => (hg.block k (Nat.lt_of_lt_of_le hk h.size) (fun e => by simp at e; omega)).trans (h.block k hk hn), h.moved⟩
theorem BasIn.off {w w' : World} {p hb B r : Nat} {T0 : Nat → Prop} {t : Bs} {s : Hs} {cs : Array Value} (h : BasIn w p hb B T0 t s) (hg : w.grownBy w' (some r)) (hr : w.heap[r]? = some (.cells cs 32 (0, 0))) : BasIn w' p hb B T0 t s := by
  have hk : ∀ (k : Nat) cur ty, w.heap[k]? = some (.cells cur ty (0, 0)) → ty ≠ 32 → w'.heap[k]? = w.heap[k]? := fun k cur ty hk hty => hg.block k (heap_lt hk) (fun e => by
    simp only [Option.some.injEq] at e
    subst e
    rw [hr] at hk
    simp only [Option.some.injEq, Obj.cells.injEq] at hk
    exact hty hk.2.1.symm)
  refine ⟨(hk p _ _ h.cells (by decide)).trans h.cells, h.hold.stay (fun k hT => ?_) (fun k cur h5 => hk k _ _ h5 (by decide)), h.lowp, h.lowh, h.last, h.again⟩
  obtain ⟨cur, ty, hh, ht⟩ := h.hold.kind k hT
  exact hk k _ _ hh (by rcases ht with rfl | rfl <;> decide)

/-- A new block for a unit. -/
theorem new_unit (w : World) : ∃ W, W = w.alloc (.cells #[.int .u8 0, .int .u8 0, .bool false, .bool false, .int .u8 0, .int .u8 0, .bool false, .slice none 0 0] 32) ∧ Below w.heap.size w W ∧ W.heap[w.heap.size]? = some (.cells zeroU 32 (0, 0)) :=
  ⟨_, rfl, (Below.refl w.heap.size w).alloc (Nat.le_refl _) _, heap_alloc_new w _⟩

set_option maxRecDepth 100000 in
set_option maxHeartbeats 1000000 in
theorem fill_any (p hb B : Nat) (T0 : Nat → Prop) (t : Bs) (s : Hs) (w : World) (h : BasIn w p hb B T0 t s) :
    Calls Tryz.prog 158 #[.pointer (some ⟨p, 0, none⟩)] w fun e w' => e = .returned (.agg (uC t.last s.last t.bib t.fib 0 (.slice none 0 0))) ∧ Below w.heap.size w w' := by
  obtain ⟨W, hW, hB, hh⟩ := new_unit w
  have h1 := h.below hB
  obtain ⟨⟨c0, -⟩, -⟩ := bas_cells h1.cells
  have hla := last_any hb B T0 s _ h1.hold
  have hun := unit_any p hb B T0 t s 0 s.last none 0 0 _ h1
  have hs := hB.size
  clear h h1
  go_enter Tryz.func158, Tryz.ntmps158
  go_upto_region 1 with fail
  rw [← hW]
  clear hW
  go_wp2_with (first | (go_at_call 140; refine hla.mono ?_; rintro e w1 ⟨rfl, hw1⟩; obtain rfl := hw1.symm; clear hw1) | (go_at_call 165; refine hun.mono ?_; rintro e w2 ⟨rfl, hB2⟩; have hh2 := (hB2.block _ (heap_lt hh)).trans hh; have hst := st_unit (ds := uC t.last s.last t.bib t.fib 0 (.slice none 0 0)) hh2 rfl rfl (uC_one _ _ _ _ _ _ _ _)))
  have hld := (ld_unit (putU_heap (ds := uC t.last s.last t.bib t.fib 0 (.slice none 0 0)) hh2 rfl) rfl).2
  refine bodyPost_ret (v := .agg (uC t.last s.last t.bib t.fib 0 (.slice none 0 0))) (by simp [results, Tryz.results158, asAddr, hld]) rfl ?_
  have hB3 := hB.trans (below_le hB2 hs)
  exact ⟨rfl, gb_below (putU_gb _ _ _) hB3 (Nat.le_refl _) hB3.size⟩
end Go.Proofs.YtldjglmelbkngaaGreat.Tape
