/- The reference's Side of a cyclic way: its messages; the contract of its fits. -/
import Derived.Test.YtmnhciildlmjcaaRefC2
namespace Go.Proofs.Ytmnhciildlmjcaa.Tape
open Go.ChangeShapes Go.WideShapes Go.ChangeAt Go.RowKit
set_option linter.unusedVariables false

/-- The reference's messages: its row. -/
def PRow (w : World) (B : Nat) (lo : Option Addr) (n cap : Nat) (ms : List (List Int)) : Prop := ∃ us, RowAt w (.slice lo n cap) us ∧ Each (HMsg w B) us ms

theorem PRow.below {w w' : World} {B : Nat} {lo : Option Addr} {n cap : Nat} {ms : List (List Int)} (h : PRow w B lo n cap ms) (hb : Below w.heap.size w w') : PRow w' B lo n cap ms := by
  obtain ⟨us, h1, h2⟩ := h
  exact ⟨us, h1.at_ fun g hg => hb.block g (h1.lt g hg), h2.mono fun u x hm => hm.below hb⟩
theorem PRow.len {w : World} {B : Nat} {lo : Option Addr} {n cap : Nat} {ms : List (List Int)} (h : PRow w B lo n cap ms) : n = ms.length ∧ n ≤ cap := by
  obtain ⟨us, h1, h2⟩ := h
  exact ⟨h1.cell.1.trans h2.len, h1.cell.2.1⟩
theorem PRow.take {w : World} {B : Nat} {lo : Option Addr} {n cap : Nat} {ms : List (List Int)} (h : PRow w B lo n cap ms) (k : Nat) (hk : k ≤ n) : PRow w B lo k cap (ms.take k) := by
  obtain ⟨us, h1, h2⟩ := h
  have hp := h1.part 0 k cap (by omega) hk (by have := h1.cell.2.1; omega) (Nat.le_refl _)
  have e : (if cap = 0 then lo else lo.map (·.add 0)) = lo := by
    split
    · rfl
    · cases lo with
      | none => rfl
      | some ad => simp [Addr.add]
  rw [e, Nat.sub_zero, Nat.sub_zero, List.drop_zero] at hp
  exact ⟨us.take k, hp, h2.take k⟩
theorem PRow.get {w : World} {B : Nat} {lo : Option Addr} {n cap : Nat} {ms : List (List Int)} (h : PRow w B lo n cap ms) (k : Nat) (hk : k < ms.length) : ∃ g off vo vc, lo = some ⟨g, off, none⟩ ∧ w.cell? ⟨g, off + k, none⟩ = some (.slice vo ms[k].length vc) ∧ HMsg w B (.slice vo ms[k].length vc) ms[k] := by
  obtain ⟨us, h1, h2⟩ := h
  obtain ⟨hnu, -, -, hrd⟩ := h1.cell
  have hku : k < us.length := by rw [h2.len]; exact hk
  have hm := h2.get k hku hk
  obtain ⟨ao, mc, hu⟩ := hm.form2
  obtain ⟨g, off, rfl, hc⟩ := hrd k _ (List.getElem?_eq_getElem hku)
  rw [hu] at hc hm
  exact ⟨g, off, ao, mc, rfl, hc, hm⟩
theorem PRow.sz {w : World} {B : Nat} {lo : Option Addr} {n cap : Nat} {ms : List (List Int)} (h : PRow w B lo n cap ms) : sz ms ≤ 273 * ms.length := by
  obtain ⟨us, h1, h2⟩ := h
  exact sz_le (fun u x hm => hm.2.2.1) h2
theorem psize_any {w : World} {B : Nat} {lo : Option Addr} {n cap : Nat} {ms : List (List Int)} (h : PRow w B lo n cap ms) (hn : n ≤ 1000000) : Calls Try.prog 29 #[.slice lo n cap] w fun e w' => e = .returned (.int .i64 (sz ms)) ∧ w' = w := by
  obtain ⟨us, h1, h2⟩ := h
  exact rsize_any lo n cap B us ms w h1 h2 hn

attribute [local go_sem ↓] ldS_def stS_def ldU_def stU_def

set_option maxRecDepth 100000 in
set_option maxHeartbeats 1000000 in
theorem rfits_any {w : World} {B : Nat} {lo : Option Addr} {n cap : Nat} (s : Hs) (t : Cs) (m o : Int) (hr : PRow w B lo n cap (s.sent ++ s.next)) (hn : s.next ≠ []) (hsm : n ≤ 1000) :
    Calls Try.prog 49 #[.agg (sideC (.slice lo n cap) s.sent.length s.first m o (tlC t))] w fun e w' => e = .returned (.bool (t.fits s)) ∧ Below w.heap.size w w' := by
  obtain ⟨W, hW, hB, hh⟩ : ∃ W, W = w.alloc (.cells (sideC (.slice lo n cap) s.sent.length s.first m o (tlC t)) 28) ∧ Below w.heap.size w W ∧ W.heap[w.heap.size]? = some (.cells (sideC (.slice lo n cap) s.sent.length s.first m o (tlC t)) 28 (0, 0)) :=
    ⟨_, rfl, (Below.refl w.heap.size w).alloc (Nat.le_refl _) _, heap_alloc_new w _⟩
  have hs := hB.size
  obtain ⟨⟨c0, c1, -⟩, -⟩ := side_cells hh
  obtain ⟨⟨-, c6, c7, -⟩, -⟩ := side_all hh
  simp only [tlC] at c6 c7
  have hlen := hr.len
  rw [List.length_append] at hlen
  have hnl : 0 < s.next.length := List.length_pos_iff.2 hn
  have htk : (s.sent ++ s.next).take (s.sent.length + 1) = s.sent ++ s.next.take 1 := by
    rw [List.take_append, List.take_of_length_le (by omega), show s.sent.length + 1 - s.sent.length = 1 by omega]
  have hsz1 : sz (s.next.take 1) = s.size := by
    unfold Hs.size
    cases s.next with
    | nil => rfl
    | cons x xs => simp [Tape.sz]
  have hrt := (hr.below hB).take (s.sent.length + 1) (by omega)
  rw [htk] at hrt
  have hsl := hrt.sz
  rw [sz_append, hsz1] at hsl
  have hsi : ∀ q, Calls Try.prog 29 #[.slice lo (s.sent.length + 1) cap] (W.drewN q) fun e w' => e = .returned (.int .i64 ((sz s.sent + s.size : Nat) : Int)) ∧ w' = W.drewN q := fun q => by
    have := psize_any (hrt.below (below_drewN (Below.refl _ _) q)) (by omega)
    rw [sz_append, hsz1] at this
    exact this
  have HF : Hid (t.fits s = (decide (s.sent.length = 0) || (decide ((s.sent.length : Int) < t.n1) && decide (((sz s.sent + s.size : Nat) : Int) ≤ t.n2)))) := rfl
  have HB : Hid (Below w.heap.size w W) := hB
  generalize t.fits s = F at *
  generalize hp : s.sent.length = p at *
  generalize sz s.sent + s.size = y at *
  have k1 : IntKind.i64.wrap ((p : Int) + 1) = ((p + 1 : Nat) : Int) := by rw [wrap_small _ (by omega) (by omega)]; omega
  have hpn : p + 1 ≤ n := by omega
  have hncap := hlen.2
  clear hr hn hh hB hrt htk hsz1 hsl hlen hp
  by_cases h0 : p = 0
  · have hp0 : ((p : Int) == 0) = true := by rw [h0]; rfl
    have HG : Hid (true = F) := by show _ = _; rw [HF.out, decide_eq_true h0]; rfl
    clear h0
    go_enter Try.func49, Try.ntmps49
    go_upto_region 1 with fail
    rw [← hW]
    clear hW
    go_wp2
    go_ret
    exact ⟨ret_bool HG.out, HB.out⟩
  · have hp1 : ((p : Int) == 0) = false := by rw [beq_eq_false_iff_ne]; omega
    by_cases h1 : (p : Int) < t.n1
    · have HG : Hid (decide ((y : Int) ≤ t.n2) = F) := by show _ = _; rw [HF.out, decide_eq_true h1, decide_eq_false h0]; simp
      go_enter Try.func49, Try.ntmps49
      go_upto_region 1 with fail
      rw [← hW]
      clear hW
      go_wp2_with fail
      go_quiet ((go_at_call 29; exact Calls.quiet_of_same (hsi _)))
      go_wp2
      go_ret
      exact ⟨ret_bool HG.out, HB.out.trans (below_le (below_drewN (Below.refl _ _) _) hs)⟩
    · have HG : Hid (false = F) := by show _ = _; rw [HF.out, decide_eq_false h1, decide_eq_false h0]; rfl
      have d1 : decide ((p : Int) < t.n1) = false := decide_eq_false h1
      go_enter Try.func49, Try.ntmps49
      go_upto_region 1 with fail
      rw [← hW]
      clear hW
      go_wp2_with fail
      go_quiet ((go_at_call 29; exact Calls.quiet_of_same (hsi _)))
      go_wp2
      go_ret
      exact ⟨ret_bool HG.out, HB.out.trans (below_le (below_drewN (Below.refl _ _) _) hs)⟩
end Go.Proofs.Ytmnhciildlmjcaa.Tape
