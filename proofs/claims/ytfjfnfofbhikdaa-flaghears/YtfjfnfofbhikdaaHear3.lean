/- The contract of the flag laws' own heard: two lists of what is heard that are one. -/
import Derived.Test.YtfjfnfofbhikdaaHear2
import Derived.Deep.RegionHeld
import Derived.BigQuiet
import Derived.Deep.QuietTactic
namespace Go.Proofs.Ytfjfnfofbhikdaa.Tape
open Go.ChangeShapes Go.WideShapes Go.ChangeAt Go.RowKit
attribute [local go_sem ↓] Go.wp_at_zero Go.wp_at_succ

theorem three_at : ∀ (hs : List HV) (i : Nat) (h : i < hs.length), (hs.flatMap HV.three)[3 * i]? = some (.int .u8 hs[i].kind) ∧ (hs.flatMap HV.three)[3 * i + 1]? = some (.slice hs[i].ao hs[i].n hs[i].cap) ∧ (hs.flatMap HV.three)[3 * i + 2]? = some (.int .i64 hs[i].pos)
  | [], i, h => by simp at h
  | x :: hs, 0, _ => by simp [HV.three]
  | x :: hs, i + 1, h => by
    have := three_at hs i (by simpa using h)
    rw [show 3 * (i + 1) = 3 * i + 1 + 1 + 1 by omega]
    simpa [HV.three] using this
theorem HRow.at3 {B : Nat} {u : Value} {hs : List HV} {w : World} (h : HRow 61 3 HV.three B u hs w) : ∃ uo cap, u = .slice uo hs.length cap ∧ hs.length ≤ cap ∧ (uo = none → cap = 0) ∧ ∀ i (hi : i < hs.length), ∃ g, uo = some ⟨g, 0, none⟩ ∧ w.cell? ⟨g, 3 * i, none⟩ = some (.int .u8 hs[i].kind) ∧ w.cell? ⟨g, 3 * i + 1, none⟩ = some (.slice hs[i].ao hs[i].n hs[i].cap) ∧ w.cell? ⟨g, 3 * i + 2, none⟩ = some (.int .i64 hs[i].pos) := by
  rcases h.row.2 with ⟨hv, h0⟩ | ⟨g, cap, cur, hv, _, hg, hc, _⟩
  · exact ⟨none, 0, by rw [hv, h0], by omega, fun _ => rfl, fun i hi => by omega⟩
  · refine ⟨_, cap, hv, hc, (fun h => by cases h), fun i hi => ⟨g, rfl, ?_, ?_, ?_⟩⟩
    · have := h.row.cells (g := g) (by rw [hv]; rfl) _ _ (three_at hs i hi).1
      rwa [Addr.add_lit, Nat.zero_add] at this
    · have := h.row.cells (g := g) (by rw [hv]; rfl) _ _ (three_at hs i hi).2.1
      rwa [Addr.add_lit, Nat.zero_add] at this
    · have := h.row.cells (g := g) (by rw [hv]; rfl) _ _ (three_at hs i hi).2.2
      rwa [Addr.add_lit, Nat.zero_add] at this
theorem said_at {hs hs' : List HV} (h : hs.map HV.said = hs'.map HV.said) (i : Nat) (hi : i < hs.length) (hi' : i < hs'.length) : hs[i].kind = hs'[i].kind ∧ hs[i].octs = hs'[i].octs := by
  have := congrArg (fun l => l[i]?) h
  simp [hi, hi', HV.said] at this
  exact this
theorem told_said (hs : List HV) : (hs.map HV.told).map Prod.fst = hs.map HV.said := by simp [HV.told, HV.said]

set_option maxRecDepth 100000 in
set_option maxHeartbeats 1000000 in
theorem heard_true (B B' : Nat) (u u' : Value) (hs hs' : List HV) (w : World) (h : HRow 57 2 HV.two B u hs w) (h' : HRow 61 3 HV.three B' u' hs' w) (he : hs.map HV.said = hs'.map HV.said) (hl : hs.length ≤ 1000000) :
    Calls Try.prog 25 #[u, u'] w fun e w' => e = .returned (.bool true) ∧ ∃ q, w' = w.drewN q := by
  have hlen : hs.length = hs'.length := by have := congrArg List.length he; simpa using this
  obtain ⟨uo, cap, rfl, hcap, -, hat⟩ := h.at2
  obtain ⟨uo', cap', rfl, hcap', -, hat'⟩ := h'.at3
  obtain ⟨L, hL⟩ : ∃ L, hs.length = L := ⟨_, rfl⟩
  have HL : Hid (hs.length = L) := hL
  have HL' : Hid (hs'.length = L) := by show _ = _; rw [← hlen]; exact hL
  have HAT : Hid (∀ i (hi : i < hs.length), ∃ g, uo = some ⟨g, 0, none⟩ ∧ w.cell? ⟨g, 2 * i, none⟩ = some (.int .u8 hs[i].kind) ∧ w.cell? ⟨g, 2 * i + 1, none⟩ = some (.slice hs[i].ao hs[i].n hs[i].cap)) := hat
  have HAT' : Hid (∀ i (hi : i < hs'.length), ∃ g, uo' = some ⟨g, 0, none⟩ ∧ w.cell? ⟨g, 3 * i, none⟩ = some (.int .u8 hs'[i].kind) ∧ w.cell? ⟨g, 3 * i + 1, none⟩ = some (.slice hs'[i].ao hs'[i].n hs'[i].cap) ∧ w.cell? ⟨g, 3 * i + 2, none⟩ = some (.int .i64 hs'[i].pos)) := hat'
  have HEQ : Hid (hs.map HV.said = hs'.map HV.said) := he
  have HR : Hid (HRow 57 2 HV.two B (.slice uo hs.length cap) hs w) := h
  have HR' : Hid (HRow 61 3 HV.three B' (.slice uo' hs'.length cap') hs' w) := h'
  rw [← hlen] at hcap' ⊢
  rw [hL] at hcap hcap' hl ⊢
  clear h h' he hlen hat hat' hL
  go_enter Try.func25, Try.ntmps25
  go_wp2
  go_loopw [5] (fun i wr => ∃ (k q : Nat), k ≤ L ∧ i = .int .i64 k ∧ wr = w.drewN q) (fun i _ => L - (intOf i).toNat)
  case atStart => exact ⟨0, 0, by omega, rfl, rfl⟩
  case round =>
    obtain ⟨k, q, hk, rfl, rfl⟩ := hrel
    by_cases hlt : k < L
    · have hk1 : k < hs.length := by have := HL.out; omega
      have hk2 : k < hs'.length := by have := HL'.out; omega
      obtain ⟨g, rfl, c0, c1⟩ := HAT.out k hk1
      obtain ⟨g', rfl, d0, d1, -⟩ := HAT'.out k hk2
      obtain ⟨ek, eo⟩ := said_at HEQ.out k hk1 hk2
      obtain ⟨⟨hl1, -, hr1, -⟩, -, -⟩ := HR.out.each hs[k] (List.getElem_mem hk1)
      obtain ⟨⟨hl2, -, hr2, -⟩, -, -⟩ := HR'.out.each hs'[k] (List.getElem_mem hk2)
      rw [← ek] at d0
      have hcv1 : (convert 22 9 (.slice hs[k].ao hs[k].n hs[k].cap)).run Try.prog (w.drewN q).drew = .ok (.string (str hs[k].octs)) (w.drewN q).drew := conv_reads hl1 ((hr1.drewN q).below (Nat.le_refl _) ((Below.refl _ _).drew))
      have hcv2 : (convert 22 9 (.slice hs'[k].ao hs'[k].n hs'[k].cap)).run Try.prog (w.drewN q).drew = .ok (.string (str hs[k].octs)) (w.drewN q).drew := by rw [eo]; exact conv_reads hl2 ((hr2.drewN q).below (Nat.le_refl _) ((Below.refl _ _).drew))
      obtain ⟨xo, xn, xc, hx1⟩ : ∃ xo xn xc, hs[k].ao = xo ∧ hs[k].n = xn ∧ hs[k].cap = xc := ⟨_, _, _, rfl, rfl, rfl⟩
      obtain ⟨yo, yn, yc, hy1⟩ : ∃ yo yn yc, hs'[k].ao = yo ∧ hs'[k].n = yn ∧ hs'[k].cap = yc := ⟨_, _, _, rfl, rfl, rfl⟩
      rw [hx1.1, hx1.2.1, hx1.2.2] at c1 hcv1
      rw [hy1.1, hy1.2.1, hy1.2.2] at d1 hcv2
      generalize str hs[k].octs = st at hcv1 hcv2
      generalize hs[k].kind = ki at c0 d0
      clear hx1 hy1 ek eo hl1 hl2 hr1 hr2
      rw [Nat.mul_comm] at c0 c1 d0 d1
      go_wp2
      go_region_held (fun W => W.cell? ⟨g, k * 2, none⟩ = some (.int .u8 ki) ∧ W.cell? ⟨g, k * 2 + 1, none⟩ = some (.slice xo xn xc) ∧ W.cell? ⟨g', k * 3, none⟩ = some (.int .u8 ki) ∧ W.cell? ⟨g', k * 3 + 1, none⟩ = some (.slice yo yn yc) ∧ (convert 22 9 (.slice xo xn xc)).run Try.prog W = .ok (.string st) W ∧ (convert 22 9 (.slice yo yn yc)).run Try.prog W = .ok (.string st) W) (exact ⟨c0, c1, d0, d1, hcv1, hcv2⟩) (fail)
      go_wp2
      go_roundw
      case rel => exact ⟨k + 1, q + 1, by omega, by go_num, rfl⟩
      case measure => simp [intOf]; omega
    · go_wp2
      go_ret
      exact ⟨rfl, q, rfl⟩
end Go.Proofs.Ytfjfnfofbhikdaa.Tape
