/- The contracts of a State's heardOther, Hear. -/
import Derived.Test.YtldjglmelbkngaaGreatState10
namespace Go.Proofs.YtldjglmelbkngaaGreat.Tape
open Go.ChangeShapes Go.WideShapes Go.ChangeAt Go.RowKit
set_option linter.unusedVariables false

attribute [local go_sem ↓] ldU_def
attribute [local go_sem] m_take c_take n_take

/-- A message that was taken: it lies apart. -/
def MsgAt (w : World) (T : Nat → Prop) (q : Value) (xs : List Int) : Prop := ∃ vo vc, q = .slice vo xs.length vc ∧ Reads w vo (xs.map (.int .u8)) ∧ ∀ a, vo = some a → a.block < w.heap.size ∧ ¬ T a.block
theorem MsgAt.foot {w w' : World} {T T' : Nat → Prop} {q : Value} {xs : List Int} (h : MsgAt w T q xs) (hf : Foot T T' w w') : MsgAt w' T' q xs := by
  obtain ⟨vo, vc, e, hr, ha⟩ := h
  refine ⟨vo, vc, e, fun j u hj => ?_, fun a e => ⟨Nat.lt_of_lt_of_le (ha a e).1 hf.size, fun ht => ?_⟩⟩
  · obtain ⟨g, off, e, hc⟩ := hr j u hj
    exact ⟨g, off, e, (World.cell?_of_block (a := ⟨g, off + j, none⟩) (hf.block g (ha _ e).1 (ha _ e).2)).trans hc⟩
  · rcases hf.moved _ ht with h | h
    · exact (ha a e).2 h
    · have := (ha a e).1
      omega

/-- Is a message taken? -/
def St.gets (x : St) (b f k : Int) (ub uf : Bool) : Bool := (x.mt.hearOk b ub && (x.mt.hearAns b ub).takes) && ((x.mt.hearAns b ub).wt.tk f k uf).2.1
def St.hgets (x : St) (b f k : Int) (ub uf : Bool) : Bool := decide ((x.count false).s ≠ 0 ∧ (x.count false).s ≠ 1 ∧ k ≠ 1) && (x.count false).gets b f k ub uf

theorem tk_err (x : Wt) (f k : Int) (uf : Bool) : ((x.tk f k uf).2.2 = 0 ∨ (x.tk f k uf).2.2 = 10 ∧ (x.tk f k uf).2.1 = false) := by
  cases x <;> simp only [Wt.tk] <;> repeat' split
  all_goals simp

/-- What an information that came lies like, beside a State's blocks. -/
def InfoIn (w : World) (T : Nat → Prop) (ao : Option Addr) (cap : Nat) (xs : List Int) : Prop := Reads w ao (xs.map (.int .u8)) ∧ xs.length ≤ 1000 ∧ (ao = none → cap = 0) ∧ (xs = [] ∨ ∃ g off, ao = some ⟨g, off, none⟩ ∧ g < w.heap.size ∧ ¬ T g)
theorem InfoIn.foot {w w' : World} {T T' : Nat → Prop} {ao : Option Addr} {cap : Nat} {xs : List Int} (h : InfoIn w T ao cap xs) (hf : Foot T T' w w') : InfoIn w' T' ao cap xs := by
  obtain ⟨hr, hl, hc0, ha⟩ := h
  refine ⟨fun j u hj => ?_, hl, hc0, ?_⟩
  · obtain ⟨g, off, e, hc⟩ := hr j u hj
    rcases ha with rfl | ⟨g', off', h, hg, hn⟩
    · simp at hj
    · rw [h] at e
      simp only [Option.some.injEq, Addr.mk.injEq, and_true] at e
      obtain ⟨rfl, rfl⟩ := e
      exact ⟨g', off', h, (World.cell?_of_block (a := ⟨g', off' + j, none⟩) (hf.block g' hg hn)).trans hc⟩
  · rcases ha with h | ⟨g, off, h, hg, hn⟩
    · exact .inl h
    · refine .inr ⟨g, off, h, Nat.lt_of_lt_of_le hg hf.size, fun ht => ?_⟩
      rcases hf.moved _ ht with h | h
      · exact hn h
      · omega

theorem StIn.take_ {w : World} {P : Pl} {T0 : Nat → Prop} {v : Value} {x : St} (h : StIn w P T0 v x) (b f kk st : Int) (ub uf wd : Bool) (ao : Option Addr) (m cap : Nat) (xs : List Int) (hm : xs.length = m) (hinf : InfoIn w (setT P T0 v) ao cap xs) :
    Calls Tryz.prog (fTake P.cy) #[.pointer (some ⟨P.p, 0, none⟩), .agg #[.int .u8 b, .int .u8 f, .bool ub, .bool uf, .int .u8 kk, .int .u8 st, .bool wd, .slice ao m cap]] w fun e w' => ∃ vo n vc, e = .returned (.tuple #[.slice vo n vc, .bool (x.wt.tk f kk uf).2.1, .int .i64 (x.wt.tk f kk uf).2.2]) ∧ ((x.wt.tk f kk uf).2.1 = true → MsgAt w' (setT P T0 v) (.slice vo n vc) xs) ∧ StIn w' P T0 v (x.take f kk uf) ∧ Foot (setT P T0 v) (setT P T0 v) w w' := by
  have hw := wtake2_any P.p P.hb P.B T0 x.wt x.hs b f kk st ub uf wd ao m cap xs w h.way hm (by have := hinf.2.1; omega) hinf.1 ⟨hinf.2.2.1, hinf.2.2.2.imp id (fun ⟨g, off, e, hg, hn⟩ => ⟨g, off, e, hg, fun e => hn (.inr (.inr (.inr (.inr (.inl e)))))⟩)⟩
  rw [h.cyc] at hw
  refine hw.mono ?_
  rintro e w' ⟨vo, n, vc, rfl, hmsg, hW, hf⟩
  obtain ⟨h1, h2⟩ := h.stW hW (cyc_tk _ _ _ _) hf
  refine ⟨vo, n, vc, rfl, fun ht => ?_, h1, h2⟩
  obtain ⟨rfl, hr, hli⟩ := hmsg ht
  refine ⟨vo, vc, by rw [hm], hr, fun a e => ⟨(hli a e).2, fun hT => ?_⟩⟩
  have := (h.lt _ hT).2
  have := (hli a e).1
  omega

set_option maxRecDepth 100000 in
set_option maxHeartbeats 4000000 in
theorem heardOther_any (P : Pl) (x : St) (b f kk st : Int) (ub uf wd : Bool) (ao : Option Addr) (m cap : Nat) (xs : List Int) (h0 : 0 ≤ b) (h1 : b ≤ 255) (k : Nat) (w : World) (T : Nat → Prop) (h : StAt w P (k + 7) T x) (hm : xs.length = m) (hinf : InfoIn w T ao cap xs) :
    Calls Tryz.prog 49 #[.pointer (some ⟨P.b, 0, none⟩), .agg #[.int .u8 b, .int .u8 f, .bool ub, .bool uf, .int .u8 kk, .int .u8 st, .bool wd, .slice ao m cap]] w fun e w' => e = .returned (.tuple #[]) ∧ ∃ T' q, StAt w' P k T' (x.heardOther b f kk ub uf q) ∧ Foot T T' w w' ∧ (x.gets b f kk ub uf = true → MsgAt w' T' q xs) := by
  obtain ⟨W, hW, hB, hh⟩ := box_unit w #[.int .u8 b, .int .u8 f, .bool ub, .bool uf, .int .u8 kk, .int .u8 st, .bool wd, .slice ao m cap]
  have hsW := h.keep hB
  have HF0 : Hid (Foot T T w W) := Foot.of_below hB
  have HIN : Hid (InfoIn W T ao cap xs) := hinf.foot (Foot.of_below hB)
  have HBX : Hid (∀ T1 Y, Foot T T1 W Y → (ldU (.pointer (some ⟨w.heap.size, 0, none⟩))).run Tryz.prog Y = .ok (.agg #[.int .u8 b, .int .u8 f, .bool ub, .bool uf, .int .u8 kk, .int .u8 st, .bool wd, .slice ao m cap]) Y) := fun T1 Y hf => (ld_unit ((hf.block _ (heap_lt hh) (fun e => by have := (h.lt.1 _ e).2; omega)).trans hh) rfl).1
  have hme := meet_any P x (k + 6) W T hsW
  have HGE : Hid (x.gets b f kk ub uf = ((x.mt.hearOk b ub && (x.mt.hearAns b ub).takes) && ((x.mt.hearAns b ub).wt.tk f kk uf).2.1)) := rfl
  have HE : Hid (∀ q, x.heardOther b f kk ub uf q = if x.mt.hearOk b ub = true ∧ (x.mt.hearAns b ub).takes = true then (x.mt.hearAns b ub).take3 f kk uf q else x.mt.hearAns b ub) := fun _ => rfl
  have hmt : x.mt = x.meet.theyIn := rfl
  rw [hmt] at HGE HE
  generalize x.meet = y0 at *
  clear hB hh hinf hsW h hmt
  go_enter Tryz.func49, Tryz.ntmps49
  go_upto_region 1 with fail
  rw [← hW]
  clear hW
  go_wp2_with fail
  refine hme.mono ?_
  rintro e w1 ⟨rfl, T1, h1', hF1⟩
  have hti := theyIn_any P y0 (k + 5) w1 T1 h1'
  have HF1 : Hid (Foot T T1 W w1) := hF1
  generalize y0.theyIn = y at *
  clear hme h1' hF1
  go_wp2_with fail
  refine hti.mono ?_
  rintro e w2 ⟨rfl, T2, h2, hF2⟩
  have HF2 : Hid (Foot T T2 W w2) := HF1.out.trans hF2
  have hha := hearAns_any P y b f kk st ub uf wd (.slice ao m cap) h0 h1 (k + 3) w2 T2 h2
  have hl2 := HBX.out T2 w2 HF2.out
  clear hti h2 hF2 HF1
  rcases (by decide : ∀ b : Bool, b = true ∨ b = false) (y.hearOk b ub) with hok | hok
  · have HE2 : Hid (∀ q, x.heardOther b f kk ub uf q = if (y.hearAns b ub).takes = true then (y.hearAns b ub).take3 f kk uf q else y.hearAns b ub) := fun q => by
      rw [HE.out q, hok]
      simp
    have HG2 : Hid (x.gets b f kk ub uf = ((y.hearAns b ub).takes && ((y.hearAns b ub).wt.tk f kk uf).2.1)) := by
      show _ = _
      rw [HGE.out, hok, Bool.true_and]
    rw [hok] at hha
    clear hok HE HGE
    generalize y.hearAns b ub = z at *
    go_wp2_with fail
    refine hha.mono ?_
    rintro e w3 ⟨rfl, T3, ⟨hr3, T03, v3, rfl, h3⟩, hF3⟩
    have HF3 : Hid (Foot T (setT P T03 v3) W w3) := HF2.out.trans hF3
    have HI3 : Hid (StIn w3 P T03 v3 z) := h3
    have HR3 : Hid (Room (k + 3) z) := hr3
    obtain ⟨⟨-, -, -, c3, c4, c5, -⟩, -⟩ := h3.all
    obtain ⟨⟨j0, -⟩, -⟩ := h3.ja.all
    have HTK : Hid (z.takes = (!z.own && !z.J.own)) := rfl
    clear hha h3 hr3 hF3 hl2 HF2
    rcases (by decide : ∀ b : Bool, b = true ∨ b = false) z.own with ho | ho
    · have HX : Hid (∀ q, x.heardOther b f kk ub uf q = z) := fun q => by rw [HE2.out q, HTK.out, ho]; simp
      have HG : Hid (x.gets b f kk ub uf = false) := by show _ = _; rw [HG2.out, HTK.out, ho]; simp
      rw [ho] at c5
      clear ho HE2 HG2 HTK c3 c4 j0
      go_wp2_with fail
      refine bodyPost_ret (v := .tuple #[]) (by simp [results, Tryz.results49, go_sem]) rfl ?_
      exact ⟨rfl, _, nilV, by rw [HX.out]; exact ⟨HR3.out.mono (by omega), _, _, rfl, HI3.out⟩, HF0.out.trans HF3.out, fun e => by rw [HG.out] at e; cases e⟩
    rw [ho] at c5
    rcases (by decide : ∀ b : Bool, b = true ∨ b = false) z.J.own with hjo | hjo
    · have HX : Hid (∀ q, x.heardOther b f kk ub uf q = z) := fun q => by rw [HE2.out q, HTK.out, hjo]; simp
      have HG : Hid (x.gets b f kk ub uf = false) := by show _ = _; rw [HG2.out, HTK.out, hjo]; simp
      rw [hjo] at j0
      clear ho hjo HE2 HG2 HTK c4
      go_wp2_with fail
      refine bodyPost_ret (v := .tuple #[]) (by simp [results, Tryz.results49, go_sem]) rfl ?_
      exact ⟨rfl, _, nilV, by rw [HX.out]; exact ⟨HR3.out.mono (by omega), _, _, rfl, HI3.out⟩, HF0.out.trans HF3.out, fun e => by rw [HG.out] at e; cases e⟩
    rw [hjo] at j0
    have HE3 : Hid (∀ q, x.heardOther b f kk ub uf q = z.take3 f kk uf q) := fun q => by rw [HE2.out q, HTK.out, ho, hjo]; simp
    have HG3 : Hid (x.gets b f kk ub uf = (z.wt.tk f kk uf).2.1) := by show _ = _; rw [HG2.out, HTK.out, ho, hjo]; simp
    have h3D := HI3.out.keep ((Below.refl _ _).drew)
    have hta := h3D.take_ b f kk st ub uf wd ao m cap xs hm ((HIN.out.foot HF3.out).foot (Foot.of_below (Below.refl _ _).drew))
    have hS : w3.drew.cell? ⟨P.b, 4, none⟩ = some (.iface (wT P.cy) (.pointer (some ⟨P.p, 0, none⟩))) ∧ (ldU (.pointer (some ⟨w.heap.size, 0, none⟩))).run Tryz.prog w3.drew = .ok (.agg #[.int .u8 b, .int .u8 f, .bool ub, .bool uf, .int .u8 kk, .int .u8 st, .bool wd, .slice ao m cap]) w3.drew := ⟨c4, HBX.out _ _ (HF3.out.trans (Foot.of_below (Below.refl _ _).drew))⟩
    have HBX3 : Hid (∀ Y, Foot (setT P T03 v3) (setT P T03 v3) w3.drew Y → StIn Y P T03 v3 (z.take f kk uf) → Y.cell? ⟨P.b, 4, none⟩ = some (.iface (wT P.cy) (.pointer (some ⟨P.p, 0, none⟩))) ∧ (ldU (.pointer (some ⟨w.heap.size, 0, none⟩))).run Tryz.prog Y = .ok (.agg #[.int .u8 b, .int .u8 f, .bool ub, .bool uf, .int .u8 kk, .int .u8 st, .bool wd, .slice ao m cap]) Y) := fun Y hf hy => ⟨hy.all.1.2.2.2.2.1, HBX.out _ _ ((HF3.out.trans (Foot.of_below (Below.refl _ _).drew)).trans hf)⟩
    have HT3 : Hid (∀ q, z.take3 f kk uf q = if (z.wt.tk f kk uf).2.1 = true then (z.take2 f kk uf).tell 3 0 q else z.take2 f kk uf) := fun _ => rfl
    have HT2 : Hid (z.take2 f kk uf = if (z.wt.tk f kk uf).2.2 = 10 then (z.take f kk uf).fail 4 else z.take f kk uf) := rfl
    have hee := tk_err z.wt f kk uf
    generalize (z.wt.tk f kk uf).2.1 = tkn at *
    generalize (z.wt.tk f kk uf).2.2 = ee at *
    clear ho hjo HE2 HG2 HTK h3D
    go_upto_region 4 with fail
    clear c3 c5 j0
    go_region_held (fun Y => Y.cell? ⟨P.b, 4, none⟩ = some (.iface (wT P.cy) (.pointer (some ⟨P.p, 0, none⟩))) ∧ (ldU (.pointer (some ⟨w.heap.size, 0, none⟩))).run Tryz.prog Y = .ok (.agg #[.int .u8 b, .int .u8 f, .bool ub, .bool uf, .int .u8 kk, .int .u8 st, .bool wd, .slice ao m cap]) Y) (assumption)
      (first
      | (with_reducible change Calls Tryz.prog (fTake _) _ _ _; refine hta.mono ?_; rintro e w4 ⟨vo, vn, vc, rfl, hmsg, h4, hF4⟩; have hS4 := HBX3.out w4 hF4 h4))
    have HI4 : Hid (StIn w4 P T03 v3 (z.take f kk uf)) := h4
    have HF4 : Hid (Foot T (setT P T03 v3) w w4) := HF0.out.trans ((HF3.out.trans (Foot.of_below (Below.refl _ _).drew)).trans hF4)
    have HM4 : Hid (tkn = true → MsgAt w4 (setT P T03 v3) (.slice vo vn vc) xs) := hmsg
    have HR4 : Hid (Room (k + 3) (z.take f kk uf)) := HR3.out.same rfl rfl rfl rfl rfl rfl
    clear h4 hF4 hS4 hmsg hta hS HBX3 HBX HI3 HR3 HF3 c4 HIN HF0
    rcases hee with rfl | ⟨rfl, rfl⟩
    · have HT2' : Hid (z.take2 f kk uf = z.take f kk uf) := by show _ = _; rw [HT2.out]; rfl
      cases tkn
      · have HX : Hid (∀ q, x.heardOther b f kk ub uf q = z.take f kk uf) := fun q => by rw [HE3.out, HT3.out, HT2'.out]; rfl
        clear HE3 HT3 HT2 HT2'
        go_wp2_with fail
        refine bodyPost_end (results_none rfl _ _ _) rfl ?_
        exact ⟨rfl, _, nilV, by rw [HX.out]; exact ⟨HR4.out.mono (by omega), _, _, rfl, HI4.out⟩, HF4.out, fun e => by rw [HG3.out] at e; cases e⟩
      · have HX : Hid (∀ q, x.heardOther b f kk ub uf q = (z.take f kk uf).tell 3 0 q) := fun q => by rw [HE3.out, HT3.out, HT2'.out]; rfl
        have hte := tell_any P (z.take f kk uf) 3 0 vo vn vc k w4 _ ⟨HR4.out.mono (by omega), _, _, rfl, HI4.out⟩
        clear HE3 HT3 HT2 HT2'
        go_wp2_with fail
        refine hte.mono ?_
        rintro e w5 ⟨rfl, T5, h5, hF5⟩
        go_wp2
        refine bodyPost_end (results_none rfl _ _ _) rfl ?_
        exact ⟨rfl, _, .slice vo vn vc, by rw [HX.out]; exact h5, HF4.out.trans hF5, fun _ => (HM4.out trivial).foot hF5⟩
    · have HX : Hid (∀ q, x.heardOther b f kk ub uf q = (z.take f kk uf).fail 4) := fun q => by rw [HE3.out, HT3.out, HT2.out]; rfl
      have hfa := fail_any P (z.take f kk uf) 4 k w4 _ ⟨HR4.out.mono (by omega), _, _, rfl, HI4.out⟩
      clear HE3 HT3 HT2
      go_wp2_with fail
      refine hfa.mono ?_
      rintro e w5 ⟨rfl, T5, h5, hF5⟩
      go_wp2
      refine bodyPost_end (results_none rfl _ _ _) rfl ?_
      exact ⟨rfl, _, nilV, by rw [HX.out]; exact h5, HF4.out.trans hF5, fun e => by rw [HG3.out] at e; cases e⟩
  · have HX : Hid (∀ q, x.heardOther b f kk ub uf q = y.hearAns b ub) := fun q => by rw [HE.out q, hok]; simp
    have HG : Hid (x.gets b f kk ub uf = false) := by show _ = _; rw [HGE.out, hok]; rfl
    rw [hok] at hha
    clear hok HE HGE
    go_wp2_with fail
    refine hha.mono ?_
    rintro e w3 ⟨rfl, T3, h3, hF3⟩
    clear hha hl2
    go_wp2
    refine bodyPost_ret (v := .tuple #[]) (by simp [results, Tryz.results49, go_sem]) rfl ?_
    exact ⟨rfl, _, nilV, by rw [HX.out]; exact h3.mono (by omega), HF0.out.trans (HF2.out.trans hF3), fun e => by rw [HG.out] at e; cases e⟩
end Go.Proofs.YtldjglmelbkngaaGreat.Tape
