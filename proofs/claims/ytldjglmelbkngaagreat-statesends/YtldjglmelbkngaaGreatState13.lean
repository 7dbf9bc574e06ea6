/- The contracts of a State's nextServed, Next, Told, Fails, Wrong. -/
import Derived.Test.YtldjglmelbkngaaGreatState9
import Derived.Test.YtldjglmelbkngaaGreatWay4
namespace Go.Proofs.YtldjglmelbkngaaGreat.Tape
open Go.ChangeShapes Go.WideShapes Go.ChangeAt Go.RowKit
set_option linter.unusedVariables false

attribute [local go_sem ↓] ldU_def stU_def
attribute [local go_sem] m_next c_next m_fill c_fill

/-- A box that isn't the State's is written. -/
theorem StIn.box {w w' : World} {P : Pl} {T0 : Nat → Prop} {v : Value} {x : St} {g : Nat} {cur : Array Value} (h : StIn w P T0 v x) (hg : w.grownBy w' (some g)) (hn : ¬ setT P T0 v g) (hh : w.heap[g]? = some (.cells cur 32 (0, 0))) : StIn w' P T0 v x := by
  have hf : ∀ k, k < w.heap.size → k ≠ g → w'.heap[k]? = w.heap[k]? := fun k hl hne => hg.block k hl (fun e => hne (by simpa using e))
  have ho : ∀ k, setT P T0 v k → w'.heap[k]? = w.heap[k]? := fun k hk => hf k (h.lt k hk).2 (fun e => hn (e ▸ hk))
  refine ⟨(ho _ (.inl rfl)).trans h.cells, h.al.at_ (ho _ (.inr (.inr (.inl rfl)))) (ho _ (.inr (.inl rfl))), h.ja.at_ (ho _ (.inr (.inr (.inr (.inl rfl))))) (ho _ (.inr (.inl rfl))), way_off (T1 := fun k => k = g) h.way ⟨hg.os, hg.tape, hg.output, hg.size, fun k hl hk => hf k hl hk, fun k hk => .inl hk⟩ ?_, h.cyc, h.row.at_ fun k hk => ho k (.inr (.inr (.inr (.inr (.inr hk))))), h.low, h.lowv⟩
  rintro k rfl
  exact ⟨fun e => hn (.inr (.inr (.inr (.inr (.inl e))))), _, _, hh, by decide, by decide⟩
theorem StAt.box {w w' : World} {P : Pl} {k : Nat} {T : Nat → Prop} {x : St} {g : Nat} {cur : Array Value} (h : StAt w P k T x) (hg : w.grownBy w' (some g)) (hn : ¬ T g) (hh : w.heap[g]? = some (.cells cur 32 (0, 0))) : StAt w' P k T x := by
  obtain ⟨hr, T0, v, rfl, hi⟩ := h
  exact ⟨hr, T0, v, rfl, hi.box hg hn hh⟩
theorem Foot.new_ {w Y Z : World} {T T' : Nat → Prop} {g : Nat} (h : Foot T T' w Y) (hg : Y.grownBy Z (some g)) (hn : w.heap.size ≤ g) : Foot T T' w Z :=
  ⟨hg.os.trans h.os, hg.tape.trans h.tape, hg.output.trans h.output, Nat.le_trans h.size hg.size, fun k hk ht => (hg.block k (Nat.lt_of_lt_of_le hk h.size) (fun e => by simp only [Option.some.injEq] at e; omega)).trans (h.block k hk ht), h.moved⟩

theorem StIn.next_ {w : World} {P : Pl} {T0 : Nat → Prop} {v : Value} {x : St} (h : StIn w P T0 v x) : Calls Tryz.prog (fNext P.cy) #[.pointer (some ⟨P.p, 0, none⟩)] w fun e w' => ∃ ao n cap T1, e = .returned (.agg (uC x.wt.last (x.wt.nx x.hs).2.1 x.wt.bib x.wt.fib (kd (x.wt.nx x.hs).2.2) (.slice ao n cap))) ∧ StIn w' P T1 v (x.setW (x.wt.nx x.hs).1.1 (x.wt.nx x.hs).1.2) ∧ Foot (setT P T0 v) (setT P T1 v) w w' := by
  have hw := wnext_any P.p P.hb P.B T0 x.wt x.hs w h.way (by have := heap_lt h.cells; have := h.low.1; omega)
  rw [h.cyc] at hw
  refine hw.mono ?_
  rintro e w' ⟨V, T1, rfl, hV, hW, hf⟩
  obtain ⟨ao, n, cap, rfl⟩ := hV.form
  obtain ⟨h1, h2⟩ := h.stW hW (cyc_nx _ _) hf
  exact ⟨ao, n, cap, T1, rfl, h1, h2⟩
theorem StIn.fill_ {w : World} {P : Pl} {T0 : Nat → Prop} {v : Value} {x : St} (h : StIn w P T0 v x) : Calls Tryz.prog (fFill P.cy) #[.pointer (some ⟨P.p, 0, none⟩)] w fun e w' => e = .returned (.agg (uC x.wt.last x.hs.last x.wt.bib x.wt.fib 0 (.slice none 0 0))) ∧ Below w.heap.size w w' := by
  have hw := wfill_any P.p P.hb P.B T0 x.wt x.hs w h.way
  rwa [h.cyc] at hw
theorem StIn.status_ {w : World} {P : Pl} {T0 : Nat → Prop} {v : Value} {x : St} (h : StIn w P T0 v x) (st : Int) : Calls Tryz.prog 42 #[.iface (wT P.cy) (.pointer (some ⟨P.p, 0, none⟩)), .int .u8 st] w fun e w' => e = .returned (.agg (stUnit x.wt x.hs st)) ∧ Below w.heap.size w w' :=
  status_any P.cy st P.p P.hb P.B T0 x.wt x.hs w h.way h.cyc

/-- What the unit that goes is. -/
def UOut (e : Ending) (k s : Int) : Prop := ∃ (a b : Int) (c d : Bool) (ao : Option Addr) (n cap : Nat), e = .returned (.agg #[.int .u8 a, .int .u8 b, .bool c, .bool d, .int .u8 k, .int .u8 s, .bool false, .slice ao n cap])

set_option maxRecDepth 100000 in
set_option maxHeartbeats 4000000 in
theorem nextS_any (P : Pl) (x : St) (k : Nat) (w : World) (T : Nat → Prop) (h : StAt w P k T x) : Calls Tryz.prog 44 #[.pointer (some ⟨P.b, 0, none⟩)] w fun e w' => UOut e (if x.J.due = true then 1 else kd (x.wt.nx x.hs).2.2) (if x.J.due = true then 5 else 0) ∧ ∃ T', StAt w' P k T' x.nextS ∧ Foot T T' w w' := by
  obtain ⟨W, hW, hB, hh⟩ := new_unit w
  have hsW := h.keep hB
  have HF0 : Hid (Foot T T w W) := Foot.of_below hB
  have HBX : Hid (∀ T1 Y, Foot T T1 W Y → Y.heap[w.heap.size]? = some (.cells zeroU 32 (0, 0))) := fun T1 Y hf => (hf.block _ (heap_lt hh) (fun e => by have := (h.lt.1 _ e).2; omega)).trans hh
  have HNT : Hid (∀ T1 Y, Foot T T1 W Y → ¬ T1 w.heap.size) := fun T1 Y hf ht => by
    rcases hf.moved _ ht with e | e
    · have := (h.lt.1 _ e).2
      omega
    · have := heap_lt hh
      omega
  obtain ⟨hr, T0, v, rfl, hi⟩ := hsW
  have HR : Hid (Room k x) := hr
  have HI : Hid (StIn W P T0 v x) := hi
  have hdu := due_ja P.j P.c x.J W hi.ja
  obtain ⟨⟨-, -, -, c3, -⟩, -⟩ := hi.all
  have HE : Hid (x.nextS = if x.J.due = true then x.toldJ else x.nxt.await.stop7) := rfl
  have HO : Hid (∀ e, UOut e (if x.J.due = true then 1 else kd (x.wt.nx x.hs).2.2) (if x.J.due = true then 5 else 0) = UOut e (if x.J.due = true then 1 else kd (x.wt.nx x.hs).2.2) (if x.J.due = true then 5 else 0)) := fun _ => rfl
  clear hB hh hi hr h
  rcases (by decide : ∀ b : Bool, b = true ∨ b = false) x.J.due with hd | hd
  · have HX : Hid (x.nextS = x.toldJ) := by show _ = _; rw [HE.out, if_pos hd]
    rw [if_pos hd, if_pos hd]
    rw [hd] at hdu
    clear hd HE HO
    go_enter Tryz.func44, Tryz.ntmps44
    go_upto_region 1 with fail
    rw [← hW]
    clear hW
    go_wp2_with fail
    refine hdu.mono ?_
    rintro e w1 ⟨rfl, hJ, hf⟩
    obtain ⟨h1, hF1⟩ := HI.out.stJ hJ hf
    have hst := h1.status_ 5
    have HI1 : Hid (StIn w1 P T0 v x.toldJ) := h1
    have HF1 : Hid (Foot (setT P T0 v) (setT P T0 v) W w1) := hF1
    obtain ⟨⟨-, -, -, -, c4, -⟩, -⟩ := h1.all
    clear h1 hF1 hJ hf hdu c3
    go_wp2_with fail
    refine hst.mono ?_
    rintro e w2 ⟨rfl, hB2⟩
    have HF2 : Hid (Foot (setT P T0 v) (setT P T0 v) W w2) := HF1.out.trans (Foot.of_below hB2)
    obtain ⟨u, hu⟩ : ∃ u, u = stUnit x.toldJ.wt x.toldJ.hs 5 := ⟨_, rfl⟩
    have HU8 : Hid (u.size = 8 ∧ u.all (·.oneCell') = true) := ⟨by rw [hu]; rfl, by rw [hu]; simp [stUnit, Value.oneCell']⟩
    have HU : Hid (u = #[.int .u8 x.wt.last, .int .u8 x.hs.last, .bool x.wt.bib, .bool x.wt.fib, .int .u8 1, .int .u8 5, .bool false, .slice none 0 0]) := by show _ = _; rw [hu]; rfl
    rw [show x.setJ x.J.told = x.toldJ from rfl, ← hu]
    have hb9 := HBX.out _ _ HF2.out
    have hs9 := st_unit (ds := u) hb9 rfl HU8.out.1 HU8.out.2
    have hg9 := putU_gb w2 w.heap.size u
    have HL9 : Hid ((loadVar 32 ⟨w.heap.size, 0, none⟩).run Tryz.prog (putU w2 w.heap.size u) = .ok (.agg u) (putU w2 w.heap.size u)) := (ld_unit (putU_heap (ds := u) hb9 (by rw [HU8.out.1]; rfl)) HU8.out.1).2
    have HS9 : Hid (StIn (putU w2 w.heap.size u) P T0 v x.toldJ ∧ Foot (setT P T0 v) (setT P T0 v) w (putU w2 w.heap.size u)) := ⟨(HI1.out.keep hB2).box hg9 (HNT.out _ _ HF2.out) hb9, (HF0.out.trans HF2.out).new_ hg9 (Nat.le_refl _)⟩
    clear hst hB2 c4 hb9 hg9 hu
    generalize putU w2 w.heap.size u = w9 at *
    go_wp2_with fail
    refine bodyPost_ret (v := .agg u) (by simp [results, Tryz.results44, asAddr, HL9.out]) rfl ?_
    exact ⟨⟨_, _, _, _, _, _, _, by rw [HU.out]⟩, _, by rw [HX.out]; exact ⟨HR.out.same rfl rfl rfl rfl rfl rfl, _, _, rfl, HS9.out.1⟩, HS9.out.2⟩
  · have HX : Hid (x.nextS = x.nxt.await.stop7) := by show _ = _; rw [HE.out, if_neg (by rw [hd]; decide)]
    rw [if_neg (by rw [hd]; decide), if_neg (by rw [hd]; decide)]
    rw [hd] at hdu
    clear hd HE HO
    go_enter Tryz.func44, Tryz.ntmps44
    go_upto_region 1 with fail
    rw [← hW]
    clear hW
    go_wp2_with fail
    refine hdu.mono ?_
    rintro e w1 ⟨rfl, hJ, hf⟩
    obtain ⟨h1, hF1⟩ := HI.out.stJ hJ hf
    have hst := h1.next_
    have HF1 : Hid (Foot (setT P T0 v) (setT P T0 v) W w1) := hF1
    obtain ⟨⟨-, -, -, -, c4, -⟩, -⟩ := h1.all
    clear h1 hF1 hJ hf hdu c3
    go_wp2_with fail
    refine hst.mono ?_
    rintro e w2 ⟨ao, n, cap, T1, rfl, h2, hF2⟩
    have h2 : StIn w2 P T1 v x.nxt := h2
    have HF2 : Hid (Foot (setT P T0 v) (setT P T1 v) W w2) := HF1.out.trans hF2
    have HR2 : Hid (Room k x.nxt) := HR.out.same rfl rfl rfl rfl rfl rfl
    change StIn w2 P T1 v x.nxt at h2
    obtain ⟨u, hu⟩ : ∃ u, u = uC x.toldJ.wt.last (x.toldJ.wt.nx x.toldJ.hs).2.1 x.toldJ.wt.bib x.toldJ.wt.fib (kd (x.toldJ.wt.nx x.toldJ.hs).2.2) (.slice ao n cap) := ⟨_, rfl⟩
    have hu8 : u.size = 8 := by rw [hu]; rfl
    have hu1 : u.all (·.oneCell') = true := by rw [hu]; exact uC_one _ _ _ _ _ _ _ _
    have HU : Hid (u = #[.int .u8 x.wt.last, .int .u8 (x.wt.nx x.hs).2.1, .bool x.wt.bib, .bool x.wt.fib, .int .u8 (kd (x.wt.nx x.hs).2.2), .int .u8 0, .bool false, .slice ao n cap]) := by show _ = _; rw [hu]; rfl
    rw [show x.setJ x.J.told = x.toldJ from rfl, ← hu]
    obtain ⟨W3, hst3, hB3, hh3⟩ := kept_any w2 u hu8 hu1
    have h3 := h2.keep hB3
    have HU8 : Hid (u.size = 8 ∧ u.all (·.oneCell') = true) := ⟨hu8, hu1⟩
    have HF3 : Hid (Foot (setT P T0 v) (setT P T1 v) W W3) := HF2.out.trans (Foot.of_below hB3)
    have HUB : Hid (∀ T4 Y, Foot (setT P T1 v) T4 W3 Y → Y.heap[w2.heap.size]? = some (.cells u 32 (0, 0))) := fun T4 Y hf => (hf.block _ (heap_lt hh3) (fun e => by have := (h2.lt _ e).2; omega)).trans hh3
    have haw := await_any P x.nxt k W3 _ ⟨HR2.out, T1, v, rfl, h3⟩
    generalize hr2 : w2.heap.size = r2 at *
    clear h2 hF2 h3 hst hu hu8 hu1 hh3 hB3 HI c4
    go_upto_region 4 with fail
    clear hst3
    go_wp2_with fail
    refine haw.mono ?_
    rintro e w4 ⟨rfl, T4, h4, hF4⟩
    have hwa := waits_any P x.nxt.await k T4 w4 h4
    have HF4 : Hid (Foot (setT P T0 v) T4 W w4) := HF3.out.trans hF4
    have HUB4 : Hid (∀ T5 Y, Foot T4 T5 w4 Y → Y.heap[r2]? = some (.cells u 32 (0, 0))) := fun T5 Y hf => HUB.out _ _ (hF4.trans hf)
    have HS4 : Hid (StAt w4 P k T4 x.nxt.await) := h4
    clear haw h4 hF4 HUB
    rcases (by decide : ∀ b : Bool, b = true ∨ b = false) x.nxt.await.waits with hwz | hwz
    · have HX2 : Hid (x.nextS = x.nxt.await) := by show _ = _; rw [HX.out, St.stop7, if_pos hwz]
      rw [hwz] at hwa
      clear hwz
      go_wp2_with fail
      refine hwa.mono ?_
      rintro e w5 ⟨rfl, hw5⟩
      obtain rfl := hw5.symm
      clear hw5 hwa
      have hb9 := HBX.out _ _ HF4.out
      have hu9 := HUB4.out _ _ (Foot.refl _ _)
      have hl9 := (ld_unit hu9 HU8.out.1).1
      have hs9 := st_unit (ds := u) hb9 rfl HU8.out.1 HU8.out.2
      have hg9 := putU_gb w4 w.heap.size u
      have HL9 : Hid ((loadVar 32 ⟨w.heap.size, 0, none⟩).run Tryz.prog (putU w4 w.heap.size u) = .ok (.agg u) (putU w4 w.heap.size u)) := (ld_unit (putU_heap (ds := u) hb9 (by rw [HU8.out.1]; rfl)) HU8.out.1).2
      have HS9 := (show Hid _ from (And.intro (StAt.box HS4.out hg9 (HNT.out _ _ HF4.out) hb9) ((HF0.out.trans HF4.out).new_ hg9 (Nat.le_refl _))))
      clear hb9 hg9 hu9
      generalize putU w4 w.heap.size u = w9 at *
      go_wp2_with fail
      refine bodyPost_ret (v := .agg u) (by simp [results, Tryz.results44, asAddr, HL9.out]) rfl ?_
      exact ⟨⟨_, _, _, _, _, _, _, by rw [HU.out]⟩, _, by rw [HX2.out]; exact HS9.out.1, HS9.out.2⟩
    · have HX2 : Hid (x.nextS = x.nxt.await.stop 7) := by show _ = _; rw [HX.out, St.stop7, if_neg (by rw [hwz]; decide)]
      rw [hwz] at hwa
      clear hwz
      go_wp2_with fail
      refine hwa.mono ?_
      rintro e w5 ⟨rfl, hw5⟩
      obtain rfl := hw5.symm
      clear hw5 hwa
      obtain ⟨hr4, T04, v4, rfl, h4⟩ := HS4.out
      have hsp := h4.stop_ 7
      have HR4 : Hid (Room k (x.nxt.await.stop 7)) := hr4.start _
      obtain ⟨⟨-, c1, -⟩, -⟩ := h4.all
      clear h4 hr4 HS4
      go_wp2_with fail
      refine hsp.mono ?_
      rintro e w6 ⟨rfl, h6, hF6⟩
      have HS6 : Hid (StAt w6 P k (setT P T04 v4) (x.nxt.await.stop 7)) := ⟨HR4.out, _, _, rfl, h6⟩
      have HF6 : Hid (Foot (setT P T0 v) (setT P T04 v4) W w6) := HF4.out.trans hF6
      have hu6 := HUB4.out _ _ hF6
      clear hsp h6 hF6 c1
      have hb9 := HBX.out _ _ HF6.out
      have hu9 := hu6
      have hl9 := (ld_unit hu9 HU8.out.1).1
      have hs9 := st_unit (ds := u) hb9 rfl HU8.out.1 HU8.out.2
      have hg9 := putU_gb w6 w.heap.size u
      have HL9 : Hid ((loadVar 32 ⟨w.heap.size, 0, none⟩).run Tryz.prog (putU w6 w.heap.size u) = .ok (.agg u) (putU w6 w.heap.size u)) := (ld_unit (putU_heap (ds := u) hb9 (by rw [HU8.out.1]; rfl)) HU8.out.1).2
      have HS9 := (show Hid _ from (And.intro (StAt.box HS6.out hg9 (HNT.out _ _ HF6.out) hb9) ((HF0.out.trans HF6.out).new_ hg9 (Nat.le_refl _))))
      clear hb9 hg9 hu9
      generalize putU w6 w.heap.size u = w9 at *
      go_wp2_with fail
      refine bodyPost_ret (v := .agg u) (by simp [results, Tryz.results44, asAddr, HL9.out]) rfl ?_
      exact ⟨⟨_, _, _, _, _, _, _, by rw [HU.out]⟩, _, by rw [HX2.out]; exact HS9.out.1, HS9.out.2⟩

set_option maxRecDepth 100000 in
theorem told_any (P : Pl) (x : St) (k : Nat) (w : World) (T : Nat → Prop) (h : StAt w P k T x) : Calls Tryz.prog 19 #[.pointer (some ⟨P.b, 0, none⟩)] w fun e w' => ∃ v T', e = .returned v ∧ StAt w' P k T' { x with told := [] } ∧ Foot T T' w w' ∧ TRow w' v x.told ∧ ∀ g, v.ownBlock = some g → P.B ≤ g ∧ ¬ T' g := by
  obtain ⟨hr, T0, v, rfl, hi⟩ := h
  obtain ⟨h1, hF1, hrow, hap⟩ := hi.took
  have HS : Hid (StIn (w.setCell ⟨P.b, 18, none⟩ (.slice none 0 0)) P T0 (.slice none 0 0) { x with told := [] }) := h1
  have HR : Hid (Room k { x with told := [] }) := ⟨by show 0 + k ≤ 1000; have := hr.told; omega, hr.fl, hr.n, hr.s, hr.an, hr.tries, hr.st⟩
  have HF := (show Hid _ from hF1)
  have HT := (show Hid _ from hrow)
  have HA : Hid (∀ g, v.ownBlock = some g → P.B ≤ g ∧ ¬ setT P T0 (.slice none 0 0) g) := fun g hg => ⟨hi.lowv g hg, hap g hg⟩
  obtain ⟨⟨-, -, -, -, -, -, -, -, -, -, -, -, c18, -⟩, z⟩ := hi.all
  have z18 := z 18
  have hlt := heap_lt hi.cells
  clear h1 hF1 hrow hap hr hi z
  go_enter Tryz.func19, Tryz.ntmps19
  go_wp2
  go_ret
  exact ⟨_, _, rfl, ⟨HR.out, T0, _, rfl, HS.out⟩, HF.out, HT.out, HA.out⟩

theorem fails_any (P : Pl) (x : St) (k : Nat) (w : World) (T : Nat → Prop) (h : StAt w P k T x) : Calls Tryz.prog 20 #[.pointer (some ⟨P.b, 0, none⟩)] w fun e w' => e = .returned (.int .i64 x.fl) ∧ w' = w := by
  obtain ⟨hr, T0, v, rfl, hi⟩ := h
  have c19 := hi.all.1.2.2.2.2.2.2.2.2.2.2.2.2.2
  clear hi hr
  go_enter Tryz.func20, Tryz.ntmps20
  go_wp2
  go_ret
  exact ⟨rfl, rfl⟩

theorem wrong_any (P : Pl) (x : St) (k : Nat) (w : World) (T : Nat → Prop) (h : StAt w P k T x) : Calls Tryz.prog 26 #[.pointer (some ⟨P.b, 0, none⟩)] w fun e w' => e = .returned (.int .i64 x.lk.n) ∧ w' = w := by
  obtain ⟨hr, T0, v, rfl, hi⟩ := h
  have c16 := hi.all.1.2.2.2.2.2.2.2.2.2.2.1
  clear hi hr
  go_enter Tryz.func26, Tryz.ntmps26
  go_wp2
  go_ret
  exact ⟨rfl, rfl⟩
end Go.Proofs.YtldjglmelbkngaaGreat.Tape
