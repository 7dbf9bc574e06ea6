/- The contract of an Ear's Bits. -/
import Derived.Test.YtfjfnfofbhikdaaEar5
namespace Go.Proofs.Ytfjfnfofbhikdaa.Tape
open Go.ChangeShapes Go.WideShapes Go.ChangeAt Go.RowKit

theorem info57 : (Try.prog.info? 57).map (fun i => (i.zero, i.size, i.bytes)) = some (some (.agg #[.int .u8 0, .slice none 0 0]), 2, 32) := by kernel_rfl

/-- What Bits leaves. -/
def Heard (w w' : World) (B b : Nat) (v : Value) (s' : Ear) (l : List (Nat × List Int)) (e : Ending) : Prop :=
  ∃ u hs v', e = .returned u ∧ hs.map HV.said = l ∧ HRow 57 2 HV.two w.heap.size u hs w' ∧ Sep b v' u hs ∧ EarAt w' B b v' s' ∧ Fr b v w w' ∧ Moved w v v'

theorem news_two (w : World) (o1 : Obj) (x y : Value) (t : TypeId) : ∀ j u, [x, y][j]? = some u → ((w.alloc o1).alloc (.cells #[x, y] t)).cell? ((⟨w.heap.size + 1, 0, none⟩ : Addr).add j) = some u := by
  have h := heap_alloc_new (w.alloc o1) (.cells #[x, y] t)
  have hs : (w.alloc o1).heap.size = w.heap.size + 1 := by simp
  rw [hs] at h
  exact World.news_of_block h
theorem fr_grown {b : Nat} {v : Value} {w W w3 : World} {r : Option Nat} (h : Fr b v w W) (hg : W.grownBy w3 r) (hr : ∀ k, r = some k → w.heap.size ≤ k) : Fr b v w w3 :=
  ⟨hg.os.trans h.os, hg.tape.trans h.tape, hg.output.trans h.output, Nat.le_trans h.size hg.size, fun k hk hb hv => (hg.block k (Nat.lt_of_lt_of_le hk h.size) (fun e => by have := hr k e.symm; omega)).trans (h.block k hk hb hv)⟩
theorem below_alloc (w : World) (o : Obj) : Below w.heap.size w (w.alloc o) := (Below.refl _ _).alloc (Nat.le_refl _) _

/-- A round in which nothing is heard. -/
theorem round_none {w wr w2 : World} {B b : Nat} {v v1 v2 u : Value} {s2 : Ear} {hs : List HV} (hrow : HRow 57 2 HV.two w.heap.size u hs wr) (hsep : Sep b v1 u hs) (hfr : Fr b v w wr) (hmv : Moved w v v1) (hear2 : EarAt w2 B b v2 s2) (hfr2 : Fr b v1 wr w2) (hmv2 : Moved wr v1 v2) (o : Obj) :
    HRow 57 2 HV.two w.heap.size u hs (w2.alloc o) ∧ Sep b v2 u hs ∧ EarAt (w2.alloc o) B b v2 s2 ∧ Fr b v w (w2.alloc o) ∧ Moved w v v2 :=
  ⟨(hrow.fr hsep hfr2).below (below_alloc _ _), hsep.moved hrow hmv2, hear2.below (below_alloc _ _), ((hfr.trans hmv hfr2).trans (v := v) (Moved.refl _ _) (Fr.of_below (below_alloc _ _))), hmv.trans hfr.size hmv2⟩
/-- A round in which something is heard. -/
theorem round_some {w wr w2 w3 : World} {B b g cap : Nat} {v v1 v2 u : Value} {s2 : Ear} {hs : List HV} {x : HV} (hrow : HRow 57 2 HV.two w.heap.size u hs wr) (hsep : Sep b v1 u hs) (hfr : Fr b v w wr) (hmv : Moved w v v1) (hear2 : EarAt w2 B b v2 s2) (hfr2 : Fr b v1 wr w2) (hmv2 : Moved wr v1 v2) {o o' : Obj}
    (hx : HV.Ok w2 x) (hli : Lies w2 wr.heap.size x.ao) (haw : Away w2 b v2 x.ao)
    (hown : w3.ownsRow w.heap.size 57 2 (.slice (some ⟨g, 0, none⟩) (hs.length + 1) cap) (hs.length + 1) (hs.flatMap HV.two ++ HV.two x)) (hgrow : ((w2.alloc o).alloc o').grownBy w3 u.ownBlock) (hat : u.ownBlock = some g ∨ g = w2.heap.size + 2) :
    HRow 57 2 HV.two w.heap.size (.slice (some ⟨g, 0, none⟩) (hs.length + 1) cap) (hs ++ [x]) w3 ∧ Sep b v2 (.slice (some ⟨g, 0, none⟩) (hs.length + 1) cap) (hs ++ [x]) ∧ EarAt w3 B b v2 s2 ∧ Fr b v w w3 ∧ Moved w v v2 := by
  obtain ⟨k1, k2, k3, k4, k5⟩ := round_none hrow hsep hfr hmv hear2 hfr2 hmv2 o
  have hB := below_alloc (w2.alloc o) o'
  have hB2 := (below_alloc w2 o).trans (hB.mono (by simp))
  have hs2 : ((w2.alloc o).alloc o').heap.size = w2.heap.size + 2 := by simp
  have hul : ∀ k, u.ownBlock = some k → k < wr.heap.size := fun k hk => (hrow.row.lt k hk).2
  have hw2 := hfr2.size
  refine ⟨(k1.below hB).snoc (hx.far (fun y hy => hB2.block _ (hli y hy).2)) (hli.mono hfr.size (by rw [hs2]; omega)) (fun y hy e => by have := hul _ e; have := (hli y hy).1; omega) hgrow hown (fun k hk => ?_), ⟨fun y hy z hz => ?_, fun k hk => ?_⟩, (k3.below hB).grown hgrow (fun e => (k2.far b e).1 rfl) (fun k hk e => (k2.far k e).2 hk), fr_grown (k4.trans (v := v) (Moved.refl _ _) (Fr.of_below hB)) hgrow (fun k hk => (hrow.row.lt k hk).1), k5⟩
  · simp only [Value.ownBlock, Option.some.injEq] at hk
    subst hk
    rcases hat with h | h
    · exact .inl h
    · exact .inr (by rw [hs2]; exact Nat.le_of_eq h.symm)
  · rcases List.mem_append.1 hy with hy | hy
    · exact k2.each y hy z hz
    · simp at hy; subst hy; exact (haw z hz).2
  · simp only [Value.ownBlock, Option.some.injEq] at hk
    subst hk
    rcases hat with h | h
    · exact k2.far _ h
    · have h' : g = w2.heap.size + 2 := h
      exact ⟨by have := hear2.lt; omega, fun e => by have := (hear2.row.lt _ e).2; omega⟩

set_option maxRecDepth 100000 in
set_option maxHeartbeats 1000000 in
theorem ebits_any (B b n cap : Nat) (v : Value) (s : Ear) (ao : Option Addr) (bs : List Bool) (w : World) (hn : bs.length = n) (hl : n ≤ 1000000) (hr : Reads w ao (bs.map .bool)) (ha : Away w b v ao) (h : EarAt w B b v s) :
    Calls Try.prog 23 #[.pointer (some ⟨b, 0, none⟩), .slice ao n cap] w fun e w' => Heard w w' B b v (after s bs) (eats s bs) e := by
  obtain ⟨i0, hi, hz0, hz1, hz2⟩ := info_parts info57
  have HN : Hid (bs.length = n) := hn
  have HE : Hid (EarAt w B b v s) := h
  have hbl := h.lt
  clear hn h
  go_enter Try.func23, Try.ntmps23
  go_wp2
  go_loopw [5, 12] (fun u i wr => ∃ (k : Nat) (s1 : Ear) (v1 : Value) (hs : List HV), k ≤ n ∧ hs.length ≤ k ∧ i = .int .i64 k ∧ HRow 57 2 HV.two w.heap.size u hs wr ∧ Sep b v1 u hs ∧ EarAt wr B b v1 s1 ∧ Fr b v w wr ∧ Moved w v v1 ∧ hs.map HV.said ++ eats s1 (bs.drop k) = eats s bs ∧ after s1 (bs.drop k) = after s bs) (fun _ i _ => n - (intOf i).toNat)
  case atStart => exact ⟨0, s, v, [], by omega, by simp, rfl, HRow.nil _ _ _ _ _, Sep.nil _ _, HE.out, Fr.refl _ _ _, Moved.refl _ _, by simp, by simp⟩
  case round =>
    obtain ⟨k, s1, v1, hs, hk, hks, rfl, hrow, hsep, hear, hfr, hmv, hq1, hq2⟩ := hrel
    have HROW : Hid (HRow 57 2 HV.two w.heap.size u5 hs wr) := hrow
    have HSEP : Hid (Sep b v1 u5 hs) := hsep
    have HQ1 : Hid (hs.map HV.said ++ eats s1 (bs.drop k) = eats s bs) := hq1
    have HQ2 : Hid (after s1 (bs.drop k) = after s bs) := hq2
    have hsz := hfr.size
    clear hrow hsep hq1 hq2
    by_cases hlt : k < n
    · have hkb : k < bs.length := by have := HN.out; omega
      have hr1 := ha.reads hfr hr
      obtain ⟨g, off, rfl, hc⟩ := hr1.bool k hkb
      have hd : Hid (bs.drop k = bs[k] :: bs.drop (k + 1)) := drop_cons bs k hkb
      generalize bs[k] = on at hc hd
      clear hr1
      have hbit := bit_any B b v1 s1 on wr hear
      rcases hP : eat s1 on with ⟨s2, o⟩
      rw [hP] at hbit
      have HP : Hid (eat s1 on = (s2, o)) := hP
      clear hP
      cases o with
      | none =>
        go_wp2_with fail
        refine hbit.mono ?_
        rintro e w2 ⟨v2, ⟨vo, m, ca, rfl, hm, hmc, hrd, hli, haw, hvn⟩, hear2, hfr2, hmv2⟩
        obtain ⟨k1, k2, k3, k4, k5⟩ := round_none HROW.out HSEP.out hfr hmv hear2 hfr2 hmv2 (.cells #[.int .u8 0, .slice vo m ca] 57)
        have K1 : Hid _ := k1
        have K2 : Hid (Sep b v2 u5 hs) := k2
        have K3 : Hid (EarAt (w2.alloc (.cells #[.int .u8 0, .slice vo m ca] 57)) B b v2 s2) := k3
        have K4 : Hid (Fr b v w (w2.alloc (.cells #[.int .u8 0, .slice vo m ca] 57))) := k4
        clear k1 k2 k3 k4 hm hmc hrd hli haw hvn hear2 hfr2 hmv2 hbit hear
        go_wp2
        go_roundw
        case rel => exact ⟨k + 1, s2, v2, hs, by omega, by omega, by go_num, K1.out, K2.out, K3.out, K4.out, k5, by have := HQ1.out; rw [hd.out, eats, HP.out] at this; simpa using this, by have := HQ2.out; rw [hd.out, after, HP.out] at this; exact this⟩
        case measure => simp [intOf]; omega
      | some x =>
        obtain ⟨K, ys⟩ := x
        go_wp2_with fail
        refine hbit.mono ?_
        rintro e w2 ⟨v2, ⟨vo, m, ca, rfl, hm, hmc, hrd, hli, haw, hvn⟩, hear2, hfr2, hmv2⟩
        have hx : Hid (HV.Ok w2 ⟨K, ys, 0, vo, m, ca⟩) := HV.Ok.mk hm hmc hrd hvn
        have hrow2 := (HROW.out.fr HSEP.out hfr2).row
        have HLI : Hid (Lies w2 wr.heap.size vo) := hli
        have HAW : Hid (Away w2 b v2 vo) := haw
        have HFR2 : Hid (Fr b v1 wr w2) := hfr2
        have HMV2 : Hid (Moved wr v1 v2) := hmv2
        have HEAR2 : Hid (EarAt w2 B b v2 s2) := hear2
        have hsz2 := hfr2.size
        clear hm hmc hrd hli haw hvn hear2 hfr2 hmv2 hbit hear
        go_wp2_with (at_builtin; refine wpList_append_lies _ rfl _ _ 49 rfl w.heap.size 57 i0 _ 2 32 Try.underlying49 hi hz0 hz1 hz2 rfl (by decide) u5 hs.length (hs.flatMap HV.two) rfl ((hrow2.alloc _).alloc _) ⟨w2.heap.size + 1, 0, none⟩ 1 1 [.int .u8 K, .slice vo m ca] rfl rfl (news_two _ _ _ _ _) (by simp [Value.oneCell']) (by omega) (by unfold maxLen; omega) (by omega) (by simp; omega) (w2.heap.size + 2) (by simp) ?_; intro g' cap' w3 hown3 hgrow3 hat3 hlt3; have HO3 := round_some (x := ⟨K, ys, 0, vo, m, ca⟩) HROW.out HSEP.out hfr hmv HEAR2.out HFR2.out HMV2.out hx.out HLI.out HAW.out hown3 hgrow3 hat3; obtain ⟨k1, k2, k3, k4, k5⟩ := HO3; clear hown3 hgrow3 hat3)
        go_roundw
        case rel => exact ⟨k + 1, s2, v2, hs ++ [⟨K, ys, 0, vo, m, ca⟩], by omega, by simp; omega, by go_num, k1, k2, k3, k4, k5, by have := HQ1.out; rw [hd.out, eats, HP.out] at this; simpa [HV.said] using this, by have := HQ2.out; rw [hd.out, after, HP.out] at this; exact this⟩
        case measure => simp [intOf]; omega
    · have hE1 : Hid (hs.map HV.said = eats s bs) := by
        show _ = _
        have := HQ1.out
        rw [List.drop_eq_nil_of_le (by have := HN.out; omega), eats, List.append_nil] at this
        exact this
      have hE2 : Hid (s1 = after s bs) := by
        show _ = _
        have := HQ2.out
        rw [List.drop_eq_nil_of_le (by have := HN.out; omega), after] at this
        exact this
      go_wp2
      go_ret
      exact ⟨u5, hs, v1, rfl, hE1.out, HROW.out, HSEP.out, by rw [← hE2.out]; exact hear, hfr, hmv⟩
end Go.Proofs.Ytfjfnfofbhikdaa.Tape
