/- The walk of the law UnitOctets. -/
import Derived.Test.YthkbfbjlkjfkiaaUnit12
import Derived.Deep.Cut
namespace Go.Proofs.Ythkbfbjlkjfkiaa.Tape
open Go.ChangeShapes Go.WideShapes Go.ChangeAt Go.RowKit
attribute [local go_sem ↓] Go.wp_at_zero Go.wp_at_succ
attribute [local go_sem ↓] ldS_def

theorem bod_right {b f k s : Int} {n : Nat} {wd : Bool} {xs : List Int} (hk0 : 0 ≤ k) (h : rgt b f k s n = 0) (hn : xs.length = n) : (bod k s wd xs).length ≤ 273 := by
  have hw := rgt_ways b f k s n hk0
  rw [h] at hw
  unfold bod
  split
  · omega
  · split
    · split <;> simp
    · simp

theorem dcd_enc (b f : Int) (p q : Bool) (k s : Int) (wd : Bool) (xs : List Int) (n : Nat) (hk0 : 0 ≤ k) (h : rgt b f k s n = 0) (hn : xs.length = n) : ∃ U, dcd (enc b f p q k s wd xs) (3 + (bod k s wd xs).length) = (U, 0) := by
  have hb := bod_right (wd := wd) (xs := xs) hk0 h hn
  refine ⟨_, dcd_ok (by omega) (by omega) ?_⟩
  show ((min (bod k s wd xs).length 63 : Nat) : Int) % 64 = _
  omega

set_option maxRecDepth 100000 in
set_option maxHeartbeats 1000000 in
theorem octets_long (b f : Int) (p q : Bool) (k s : Int) (wd : Bool) (ao : Option Addr) (n cap : Nat) (w : World) (hl : 300 < n) (hm : n ≤ maxLen) :
    Calls Try.prog 4 #[.agg #[.int .u8 b, .int .u8 f, .bool p, .bool q, .int .u8 k, .int .u8 s, .bool wd, .slice ao n cap]] w fun e w' => e = .returned (.bool true) ∧ Below w.heap.size w w' := by
  unfold maxLen at hm
  have hB0 : Below w.heap.size w (w.alloc (.cells #[.int .u8 b, .int .u8 f, .bool p, .bool q, .int .u8 k, .int .u8 s, .bool wd, .slice ao n cap] 24)) := (Below.refl _ _).alloc (Nat.le_refl _) _
  have hbox := heap_alloc_new w (.cells #[.int .u8 b, .int .u8 f, .bool p, .bool q, .int .u8 k, .int .u8 s, .bool wd, .slice ao n cap] 24)
  go_enter Try.func4, Try.ntmps4
  go_wp2_with fail
  refine (awake6_any _).mono ?_
  rintro e w1 ⟨rfl, hb1⟩
  obtain ⟨⟨-, -, -, -, -, -, -, c7⟩, -⟩ := unit_cells (block_keep hbox hb1 (Nat.le_refl _))
  have hB1 := hB0.trans (hb1.mono hB0.size)
  clear hbox hB0 hb1
  go_wp2_with fail
  refine (awake6_any _).mono ?_
  rintro e w2 ⟨rfl, hb2⟩
  go_wp2
  go_ret
  exact ⟨rfl, hB1.trans (hb2.mono hB1.size)⟩

set_option maxRecDepth 100000 in
set_option maxHeartbeats 2000000 in
theorem octets_short (b f : Int) (p q : Bool) (k s : Int) (wd : Bool) (ao : Option Addr) (n cap : Nat) (xs : List Int) (w : World) (hl : n ≤ 300) (hb : 0 ≤ b) (hf : 0 ≤ f) (hk : 0 ≤ k) (hs : 0 ≤ s) (hn : xs.length = n) (hnil : ao = none → cap = 0) (hx : ∀ x ∈ xs, 0 ≤ x ∧ x ≤ 255) (hr : Reads w ao (xs.map (.int .u8))) :
    Calls Try.prog 4 #[.agg #[.int .u8 b, .int .u8 f, .bool p, .bool q, .int .u8 k, .int .u8 s, .bool wd, .slice ao n cap]] w fun e w' => e = .returned (.bool true) ∧ Below w.heap.size w w' := by
  have hB0 : Below w.heap.size w (w.alloc (.cells #[.int .u8 b, .int .u8 f, .bool p, .bool q, .int .u8 k, .int .u8 s, .bool wd, .slice ao n cap] 24)) := (Below.refl _ _).alloc (Nat.le_refl _) _
  have hbox := heap_alloc_new w (.cells #[.int .u8 b, .int .u8 f, .bool p, .bool q, .int .u8 k, .int .u8 s, .bool wd, .slice ao n cap] 24)
  have HN : Hid (xs.length = n) := hn
  have HX : Hid (∀ x ∈ xs, 0 ≤ x ∧ x ≤ 255) := hx
  have hnear := fun W => near_yes b f p q k s wd ao n cap 255 W (by omega) hb hf hk hs
  obtain ⟨b', hb'⟩ : ∃ b', b % 128 = b' := ⟨_, rfl⟩
  obtain ⟨f', hf'⟩ : ∃ f', f % 128 = f' := ⟨_, rfl⟩
  obtain ⟨k', hk'⟩ : ∃ k', k % 3 = k' := ⟨_, rfl⟩
  obtain ⟨s', hs'⟩ : ∃ s', s % 8 = s' := ⟨_, rfl⟩
  rw [hb', hf', hk', hs'] at hnear
  have b0 : 0 ≤ b' := by omega
  have b1 : b' ≤ 127 := by omega
  have f0 : 0 ≤ f' := by omega
  have f1 : f' ≤ 127 := by omega
  have k0 : 0 ≤ k' := by omega
  have K0 : Hid (k' = 0 ∨ k' = 1 ∨ k' = 2) := by show _ ∨ _; omega
  have s0 : 0 ≤ s' := by omega
  have s1 : s' ≤ 255 := by omega
  clear hn hx hb hf hk hs hb' hf' hk' hs'
  go_enter Try.func4, Try.ntmps4
  go_wp2_with fail
  refine (awake6_any _).mono ?_
  rintro e w1 ⟨rfl, hb1⟩
  have hbox1 := block_keep hbox hb1 (Nat.le_refl _)
  obtain ⟨⟨-, -, -, -, -, -, -, c7⟩, -⟩ := unit_cells hbox1
  have hld1 := ld_unit hbox1
  have hB1 := hB0.trans (hb1.mono hB0.size)
  clear hbox hB0 hb1
  go_wp2_with fail
  refine (hnear _).mono ?_
  rintro e w2 ⟨rfl, hb2⟩
  have hbox2 := block_keep hbox1 hb2 (Nat.le_refl _)
  have hB2 := hB1.trans (hb2.mono hB1.size)
  clear c7 hnear hld1
  obtain ⟨⟨c0, c1, c2, c3, c4, c5, c6, c7⟩, ff⟩ := unit_cells hbox2
  have g0 := ff 0
  have g1 := ff 1
  have g2 := ff 2
  have g3 := ff 3
  have g4 := ff 4
  have g5 := ff 5
  have g6 := ff 6
  have g7 := ff 7
  clear hbox1 hb2 hB1 ff
  go_upto_region 4 with fail
  obtain ⟨W, hW⟩ : ∃ W, W = put8 w2 w.heap.size (.int .u8 b') (.int .u8 f') (.bool p) (.bool q) (.int .u8 k') (.int .u8 s') (.bool wd) (.slice ao n cap) := ⟨_, rfl⟩
  have hboxW := put8_box hbox2 (.int .u8 b') (.int .u8 f') (.bool p) (.bool q) (.int .u8 k') (.int .u8 s') (.bool wd) (.slice ao n cap)
  have hBW := put8_below hB2 (Nat.le_refl _) (.int .u8 b') (.int .u8 f') (.bool p) (.bool q) (.int .u8 k') (.int .u8 s') (.bool wd) (.slice ao n cap)
  rw [← hW] at hboxW hBW
  unfold put8 at hW
  rw [← hW]
  clear hW hbox2 hB2 c0 c1 c2 c3 c4 c5 c6 c7 g0 g1 g2 g3 g4 g5 g6 g7
  have hrW := hr.below (Nat.le_refl _) hBW
  have hldW := ld_unit hboxW
  obtain ⟨R, hR⟩ : ∃ R, rgt b' f' k' s' n = R := ⟨_, rfl⟩
  have HR : Hid (rgt b' f' k' s' n = R) := hR
  clear hr hR
  go_wp2_with fail
  refine (rright_any b' f' p q k' s' wd ao n cap R _ k0 HR.out).mono ?_
  rintro e w3 ⟨rfl, hb3⟩
  have hbox3 := block_keep hboxW hb3 (Nat.le_refl _)
  have hB3 := hBW.trans (hb3.mono hBW.size)
  have hr3 := hrW.below (Nat.le_refl _) hb3
  have hld3 := ld_unit hbox3
  clear hboxW hBW hb3 hrW hldW
  by_cases h0 : R ≠ 0
  · have n0 : ((R : Int) != 0) = true := by rw [bne_iff_ne]; omega
    clear hld3
    go_wp2
    go_ret
    exact ⟨rfl, hB3⟩
  obtain rfl : R = 0 := Decidable.of_not_not h0
  clear h0
  obtain ⟨U, hU⟩ := dcd_enc b' f' p q k' s' wd xs n k0 HR.out HN.out
  have HER := enc_range b' f' p q k' s' wd xs b0 f0 b1 f1 s0 s1 HX.out
  have HUI := dcd_info hU HER
  have HD : Hid (dcd (enc b' f' p q k' s' wd xs) (3 + (bod k' s' wd xs).length) = (U, 0)) := hU
  have HEX : Hid (∀ x ∈ enc b' f' p q k' s' wd xs, 0 ≤ x ∧ x ≤ 255) := HER
  have HU : Hid (∀ x ∈ U.info, 0 ≤ x ∧ x ≤ 255) := HUI
  have HL : Hid ((enc b' f' p q k' s' wd xs).length = 3 + (bod k' s' wd xs).length) := by show _ = _; simp [enc]; omega
  have henc := encode_ok b' f' p q k' s' wd ao n cap xs w3 b0 f0 k0 b1 f1 K0.out HR.out HN.out (by omega) hr3 hnil
  have hrenc := fun W hW => renc_any b' f' p q k' s' wd ao n cap xs W b0 f0 b1 f1 K0.out HN.out (by omega) hW hnil
  have hplain := fun W hW => plain_any b' f' p q k' s' wd ao n cap xs U 0 W b0 f0 b1 f1 s0 s1 K0.out HN.out (by omega) HX.out hW hnil hU
  obtain ⟨ML, hML⟩ : ∃ ML, 3 + (bod k' s' wd xs).length = ML := ⟨_, rfl⟩
  rw [hML] at HD HL henc
  simp only [hML] at hrenc
  have HRE : Hid (∀ W, Reads W ao (xs.map (.int .u8)) → Calls Try.prog 14 #[.agg #[.int .u8 b', .int .u8 f', .bool p, .bool q, .int .u8 k', .int .u8 s', .bool wd, .slice ao n cap]] W fun e w' => ∃ v, e = .returned v ∧ w'.ownsRow W.heap.size 5 1 v ML ((enc b' f' p q k' s' wd xs).map (.int .u8)) ∧ Below W.heap.size W w') := hrenc
  have HPL : Hid (∀ W, Reads W ao (xs.map (.int .u8)) → Calls Try.prog 16 #[.agg #[.int .u8 b', .int .u8 f', .bool p, .bool q, .int .u8 k', .int .u8 s', .bool wd, .slice ao n cap]] W fun e w' =>
      ∃ vo m ca, e = .returned (.agg #[.int .u8 U.b, .int .u8 U.f, .bool U.p, .bool U.q, .int .u8 U.k, .int .u8 U.s, .bool U.wd, .slice vo m ca]) ∧ U.info.length = m ∧ Reads w' vo (U.info.map (.int .u8)) ∧ Below W.heap.size W w') := hplain
  obtain ⟨en, hen⟩ : ∃ en, enc b' f' p q k' s' wd xs = en := ⟨_, rfl⟩
  rw [hen] at HD HL henc HEX HRE
  clear hU HER HUI hrenc hplain hML hen K0 HR
  go_wp2_with fail
  refine henc.mono ?_
  rintro e w4 ⟨v, rfl, hown4, hb4⟩
  obtain ⟨vo, ca, rfl, hca, hr4, -⟩ := owns_form hown4
  have hbox4 := block_keep hbox3 hb4 (Nat.le_refl _)
  have hru4 := hr3.below (Nat.le_refl _) hb4
  have hB4 := hB3.trans (hb4.mono hB3.size)
  clear henc hown4 hbox3 hr3 hb4 hB3 hld3
  go_wp2_with fail
  refine (decode_any vo ML ca en (U, 0) w4 HL.out hca HEX.out HD.out hr4).mono ?_
  rintro e w5 ⟨d1, m1, k1, rfl, hm1, hk1, hd1, -, -, hb5⟩
  have hbox5 := block_keep hbox4 hb5 (Nat.le_refl _)
  have hru5 := hru4.below (Nat.le_refl _) hb5
  have hr5 := hr4.below (Nat.le_refl _) hb5
  have hB5 := hB4.trans (hb5.mono hB4.size)
  have HM1 : Hid (U.info.length = m1) := hm1
  clear hbox4 hru4 hr4 hb5 hB4 hm1
  go_upto_region 8 with fail
  obtain ⟨wA, hA⟩ : ∃ wA, wA = w5.alloc (.cells #[.int .u8 U.b, .int .u8 U.f, .bool U.p, .bool U.q, .int .u8 U.k, .int .u8 U.s, .bool U.wd, .slice d1 m1 k1] 24) := ⟨_, rfl⟩
  rw [← hA]
  have hbA : Below w5.heap.size w5 wA := by rw [hA]; exact (Below.refl _ _).alloc (Nat.le_refl _) _
  have hxv : wA.heap[w5.heap.size]? = some (.cells #[.int .u8 U.b, .int .u8 U.f, .bool U.p, .bool U.q, .int .u8 U.k, .int .u8 U.s, .bool U.wd, .slice d1 m1 k1] 24 (0, 0)) := by rw [hA]; exact heap_alloc_new _ _
  have hxu := block_keep hbox5 hbA (Nat.le_refl _)
  have hBA := hB5.trans (hbA.mono hB5.size)
  have hru0 := hru5.below (Nat.le_refl _) hbA
  have hrv0 := hd1.below (Nat.le_refl _) hbA
  have hrp0 := hr5.below (Nat.le_refl _) hbA
  have HC : Hid (∀ W, Below wA.heap.size wA W → (ldS (.pointer (some ⟨w.heap.size, 0, none⟩))).run Try.prog W = .ok (.agg #[.int .u8 b', .int .u8 f', .bool p, .bool q, .int .u8 k', .int .u8 s', .bool wd, .slice ao n cap]) W ∧ (ldS (.pointer (some ⟨w5.heap.size, 0, none⟩))).run Try.prog W = .ok (.agg #[.int .u8 U.b, .int .u8 U.f, .bool U.p, .bool U.q, .int .u8 U.k, .int .u8 U.s, .bool U.wd, .slice d1 m1 k1]) W ∧ (convert 22 9 (.slice vo ML ca)).run Try.prog W = .ok (.string (str en)) W) := fun W hW => ⟨ld_unit (block_keep hxu hW (Nat.le_refl _)), ld_unit (block_keep hxv hW (Nat.le_refl _)), conv_reads HL.out (hrp0.below (Nat.le_refl _) hW)⟩
  have HRU : Hid (∀ W, Below wA.heap.size wA W → Reads W ao (xs.map (.int .u8))) := fun W hW => hru0.below (Nat.le_refl _) hW
  have HRV : Hid (∀ W, Below wA.heap.size wA W → Reads W d1 (U.info.map (.int .u8))) := fun W hW => hrv0.below (Nat.le_refl _) hW
  have hBd : Below wA.heap.size wA wA.drew := (Below.refl _ _).drew
  clear hA hbA hxv hxu hru0 hrv0 hrp0 hB5 hbox5 hru5 hd1 hr5 hca hk1 b0 b1 f0 f1 k0 s0 s1 HX HN hnil
  go_region_held (fun W => (ldS (.pointer (some ⟨w.heap.size, 0, none⟩))).run Try.prog W = .ok (.agg #[.int .u8 b', .int .u8 f', .bool p, .bool q, .int .u8 k', .int .u8 s', .bool wd, .slice ao n cap]) W ∧ (ldS (.pointer (some ⟨w5.heap.size, 0, none⟩))).run Try.prog W = .ok (.agg #[.int .u8 U.b, .int .u8 U.f, .bool U.p, .bool U.q, .int .u8 U.k, .int .u8 U.s, .bool U.wd, .slice d1 m1 k1]) W ∧ (convert 22 9 (.slice vo ML ca)).run Try.prog W = .ok (.string (str en)) W) ((refine HC.out _ ?_; assumption)) (first
    | (go_at_call 17; have hB7 := hB7; refine (usame_any U.b U.f U.p U.q U.k U.s U.wd d1 m1 k1 U.info U.b U.f U.p U.q U.k U.s U.wd d3 m3 k3 U.info true _ (by simp) HM1.out HM3.out HU.out HU.out (HRV.out _ hB7) hr7).mono ?_; rintro e w8 ⟨rfl, hb8⟩; have hB8 := hB7.trans (hb8.mono hB7.size))
    | (go_at_call 16; have hB6 := hB6; refine (HPL.out _ (HRU.out _ hB6)).mono ?_; rintro e w7 ⟨d3, m3, k3, rfl, hm3, hr7, hb7⟩; have hB7 := hB6.trans (hb7.mono hB6.size); have HM3 : Hid (U.info.length = m3) := hm3; clear hm3)
    | (go_at_call 15; refine (rsame6_any U.b U.f U.p U.q U.k U.s U.wd d1 m1 k1 U.info U.b U.f U.p U.q U.k U.s U.wd d2 m2 k2 U.info true _ (by simp) HM1.out HM2.out HU.out HU.out (HRV.out _ hB5) hr5).mono ?_; rintro e w6' ⟨rfl, hb6⟩; have hB6 := hB5.trans (hb6.mono hB5.size))
    | (go_at_call 16; have hB4 := hB4; refine (HPL.out _ (HRU.out _ hB4)).mono ?_; rintro e w5' ⟨d2, m2, k2, rfl, hm2, hr5, hb5⟩; have hB5 := hB4.trans (hb5.mono hB4.size); have HM2 : Hid (U.info.length = m2) := hm2; clear hm2)
    | (go_at_call 14; refine (HRE.out _ (HRU.out _ hBd)).mono ?_; rintro e w4' ⟨v4, rfl, hown4, hb4⟩; obtain ⟨vo4, ca4, rfl, hca4, hr4, -⟩ := owns_form hown4; have hB4 := hBd.trans (hb4.mono hBd.size); have hc4 := conv_reads (cap := ca4) HL.out hr4; clear hown4 hr4))
  go_wp2
  go_ret
  exact ⟨rfl, hBA.trans (hB8.mono hBA.size)⟩

theorem octets_walk (v : Value) (w : World) (hv : IsUnit w v) :
    Calls Try.prog 4 #[v] w fun e w' => e = .returned (.bool true) ∧ Below w.heap.size w w' := by
  obtain ⟨b, f, p, q, k, s, wd, ao, n, cap, xs, rfl, hb, hf, hk, hs, hn, hc, hm, hnil, hr, hx⟩ := hv
  by_cases hl : 300 < n
  · exact octets_long b f p q k s wd ao n cap w hl (Nat.le_trans hc hm)
  · exact octets_short b f p q k s wd ao n cap xs w (by omega) hb.1 hf.1 hk.1 hs.1 hn hnil hx hr
end Go.Proofs.Ythkbfbjlkjfkiaa.Tape
