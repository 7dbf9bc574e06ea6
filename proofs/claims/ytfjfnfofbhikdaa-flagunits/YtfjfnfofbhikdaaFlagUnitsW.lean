/- The walk of the law FlagUnits: it returns true and writes nothing that was there. -/
import Derived.Test.YtfjfnfofbhikdaaStream2
namespace Go.Proofs.Ytfjfnfofbhikdaa.Tape
open Go.ChangeShapes Go.WideShapes Go.ChangeAt Go.RowKit
attribute [local go_sem ↓] Go.wp_at_zero Go.wp_at_succ

theorem owns_away2 {w : World} {B b n cap m s : Nat} {e : TypeId} {v : Value} {ao : Option Addr} {vs : List Value} (h : w.ownsRow B e s (.slice ao n cap) m vs) (hb : b < B) (hv : ∀ k, v.ownBlock = some k → k < B) : Away w b v ao := fun x hx =>
  ⟨(owns_lies h x hx).2, by have := (owns_lies h x hx).1; omega, fun e => by have := hv _ e; have := (owns_lies h x hx).1; omega⟩
theorem two_flags (s : Ear) (hf : Fine s) : ∃ c, after s (flg ++ flg) = ⟨false, [], c, 0⟩ := by
  obtain ⟨c, hc⟩ := after_flg s hf
  rw [after_append, hc]
  exact after_flg _ (by rw [← hc]; exact hf.after _)

set_option maxRecDepth 100000 in
set_option maxHeartbeats 2000000 in
theorem units_walk (lo jo : Option Addr) (L lc J jc : Nat) (ls : List RV) (js : List Int) (w : World) (hn : ls.length = L) (hL : L ≤ maxLen) (hls : Lots w lo ls) (hJ : js.length = J) (hJm : J ≤ maxLen) (hjr : ∀ x ∈ js, 0 ≤ x ∧ x ≤ 255) (hjs : Reads w jo (js.map (.int .u8))) :
    Calls Try.prog 7 #[.slice lo L lc, .slice jo J jc] w fun e w' => e = .returned (.bool true) ∧ Below w.heap.size w w' := by
  have HN : Hid (ls.length = L) := hn
  have HJ : Hid (js.length = J) := hJ
  have hJ' : J ≤ 9223372036854775807 := hJm
  go_enter Try.func7, Try.ntmps7
  go_wp2_with fail
  refine (awake5_any _).mono ?_
  rintro e w1 ⟨rfl, hb1⟩
  have hls1 := hls.below hb1
  have hsh := short_any lo L lc ls w1 HN.out hL hls1
  cases hf : few ls L
  · rw [hf] at hsh
    go_wp2_with fail
    refine hsh.mono ?_
    rintro e w2 ⟨rfl, hw2⟩
    obtain rfl := hw2.symm
    clear hw2 hsh
    go_wp2_with fail
    refine (awake5_any _).mono ?_
    rintro e w3 ⟨rfl, hb3⟩
    go_wp2
    go_ret
    exact ⟨rfl, hb1.trans (hb3.mono hb1.size)⟩
  · rw [hf] at hsh
    obtain ⟨h60, hL12⟩ := few_yes hf
    have H60 : Hid (∀ r ∈ ls, r.n ≤ 60) := h60
    clear hf h60
    by_cases hJ2 : 300 < J
    · go_wp2_with fail
      refine hsh.mono ?_
      rintro e w2 ⟨rfl, hw2⟩
      obtain rfl := hw2.symm
      clear hw2 hsh
      go_wp2_with fail
      refine (awake5_any _).mono ?_
      rintro e w3 ⟨rfl, hb3⟩
      go_wp2
      go_ret
      exact ⟨rfl, hb1.trans (hb3.mono hb1.size)⟩
    · go_wp2_with fail
      refine hsh.mono ?_
      rintro e w2 ⟨rfl, hw2⟩
      obtain rfl := hw2.symm
      clear hw2 hsh hls1
      have hear := ear_new (w := w1) (B := w.heap.size) hb1.size
      have hBe := below_alloc w1 (.cells #[.bool false, .slice none 0 0, .int .i64 0, .int .i64 0] 48)
      have hB1 := hb1.trans (hBe.mono hb1.size)
      have hw1 := hb1.size
      have hjs1 := hjs.below (Nat.le_refl _) hB1
      have hse : (w1.alloc (.cells #[.bool false, .slice none 0 0, .int .i64 0, .int .i64 0] 48)).heap.size = w1.heap.size + 1 := by simp
      go_wp2_with fail
      refine (rbits_n _ _ _ js _ HJ.out (by omega) hjr hjs1).mono ?_
      rintro e w2 ⟨v2, rfl, hown2, hb2⟩
      have hear2 := hear.below hb2
      have hB2 := hB1.trans (hb2.mono hB1.size)
      rw [hse] at hown2
      obtain ⟨vo2, ca2, rfl, -, hrd2, -⟩ := owns_form2 hown2
      have haw2 := owns_away2 (b := w1.heap.size) (v := .slice none 0 0) hown2 (by omega) (by simp [Value.ownBlock])
      have HBL : Hid ((bits js).length = 8 * J) := by show _ = _; rw [bits_len, HJ.out]
      have hbi := ebits_any w.heap.size w1.heap.size (8 * J) ca2 (.slice none 0 0) ear0 vo2 (bits js) w2 HBL.out (by omega) hrd2 haw2 hear2
      clear hear hBe hB1 hjs1 hse hb2 hown2 hrd2 haw2 hear2 hjs hjr hb1
      go_wp2_with fail
      refine hbi.mono ?_
      rintro e w3 ⟨u3, hs3, v3, rfl, -, -, -, hear3, hfr3, -⟩
      have hB3 : Below w.heap.size w w3 := hB2.trans (hfr3.below hw1 (by simp [Value.ownBlock]) hB2.size)
      generalize after ear0 (bits js) = S3 at hear3
      have hear4 := hear3.below (below_alloc w3 (.cells #[.bool false] 4))
      have hB4 : Below w.heap.size w (w3.alloc (.cells #[.bool false] 4)) := hB3.alloc hB3.size _
      have hv3 : ∀ g, v3.ownBlock = some g → g < w3.heap.size ∧ w.heap.size ≤ g := fun g hg => ⟨(hear3.row.lt g hg).2, (hear3.row.lt g hg).1⟩
      have hr4 : Reads (w3.alloc (.cells #[.bool false] 4)) (some ⟨w3.heap.size, 0, none⟩) ([false].map .bool) := Reads.of_owns (owns_new4 (base := 0) (Nat.zero_le _) [.bool false] 1 rfl (by unfold maxLen; omega))
      have haw4 : Away (w3.alloc (.cells #[.bool false] 4)) w1.heap.size v3 (some ⟨w3.heap.size, 0, none⟩) := fun x hx => by
        cases hx
        exact ⟨by simp, by have := hear3.lt; simp only; omega, fun e => by have := (hv3 _ e).1; simp only at this; omega⟩
      have hbi4 := ebits_any w.heap.size w1.heap.size 1 1 v3 S3 (some ⟨w3.heap.size, 0, none⟩) [false] _ rfl (by omega) hr4 haw4 hear4
      clear hbi hfr3 hB2 hear3 hear4 hr4 haw4
      go_wp2_with fail
      refine hbi4.mono ?_
      rintro e w5 ⟨u5, hs5, v5, rfl, -, -, -, hear5, hfr5, -⟩
      have hB5 : Below w.heap.size w w5 := hB4.trans (hfr5.below hw1 (fun g hg => (hv3 g hg).2) hB4.size)
      generalize after S3 [false] = S5 at hear5
      have hv5 : ∀ g, v5.ownBlock = some g → g < w5.heap.size ∧ w.heap.size ≤ g := fun g hg => ⟨(hear5.row.lt g hg).2, (hear5.row.lt g hg).1⟩
      clear hbi4 hfr5 hB3 hB4 hv3
      go_wp2_with fail
      refine (rflag_any _).mono ?_
      rintro e w6 ⟨v6, rfl, hown6, hb6⟩
      have hear6 := hear5.below hb6
      have hB6 := hB5.trans (hb6.mono hB5.size)
      have hb5l := hear5.lt
      have hsz56 := hb6.size
      clear hear5 hB5
      go_wp2_with fail
      refine (rflag_any _).mono ?_
      rintro e w7 ⟨v7, rfl, hown7, hb7⟩
      have hear7 := hear6.below hb7
      have hB7 := hB6.trans (hb7.mono hB6.size)
      have hown67 := owns_below hown6 hb7
      obtain ⟨vo7, ca7, rfl, -, hrd7, hnil7⟩ := owns_form2 hown7
      have hsz67 := hb7.size
      have hsz57 : w5.heap.size ≤ w7.heap.size := by omega
      clear hear6 hB6 hown6 hown7 hb6 hb7
      go_wp2_with (at_builtin; refine append_bits rfl 26 Try.underlying26 _ _ rfl w5.heap.size _ _ _ rfl hown67 vo7 8 ca7 flg rfl rfl hrd7 hnil7 (by omega) hsz57 ?_; intro v8 w8 hown8 hb8 _)
      have hear8 := hear7.far' (hb8.block _ hb5l) (fun g hg => hb8.block g (hv5 g hg).1)
      have hB8 := hB7.trans (hb8.mono (by have := hB7.size; omega))
      have hown8' : w8.ownsRow w5.heap.size 4 1 v8 16 ((flg ++ flg).map .bool) := by rw [List.map_append]; exact hown8
      obtain ⟨vo8, ca8, rfl, -, hrd8, -⟩ := owns_form2 hown8'
      have haw8 := owns_away2 (b := w1.heap.size) (v := v5) hown8' hb5l (fun g hg => (hv5 g hg).1)
      obtain ⟨c9, hc9⟩ := two_flags S5 hear8.fine
      have hbi8 := ebits_any w.heap.size w1.heap.size 16 ca8 v5 S5 vo8 (flg ++ flg) w8 rfl (by omega) hrd8 haw8 hear8
      rw [hc9] at hbi8
      clear hear7 hB7 hown67 hown8 hown8' hrd7 hrd8 haw8 hear8 hb8 hc9
      refine hbi8.mono ?_
      rintro e w9 ⟨u9, hs9, v9, rfl, -, -, -, hear9, hfr9, -⟩
      have hB9 : Below w.heap.size w w9 := hB8.trans (hfr9.below hw1 (fun g hg => (hv5 g hg).2) hB8.size)
      clear hbi8 hfr9 hB8 hv5
      go_wp2
      go_loopw [6] (fun i wr => ∃ (k c : Nat) (v : Value), k ≤ L ∧ i = .int .i64 k ∧ EarAt wr w.heap.size w1.heap.size v ⟨false, [], c, 0⟩ ∧ Below w.heap.size w wr) (fun i _ => L - (intOf i).toNat)
      case atStart => exact ⟨0, c9, v9, by omega, rfl, hear9, hB9⟩
      case round =>
        clear hear9 hB9
        obtain ⟨k, c, v, hk, rfl, hear, hB⟩ := hrel
        by_cases hlt : k < L
        · have hkl : k < ls.length := by have := HN.out; omega
          have hget : ls[k]? = some ls[k] := List.getElem?_eq_getElem hkl
          have hn60 := H60.out ls[k] (List.getElem_mem hkl)
          obtain ⟨g, off, rfl, hcl, hok⟩ := hls.below hB k _ hget
          obtain ⟨g', off', hgo, hcl0, hok0⟩ := hls k _ hget
          simp only [Option.some.injEq, Addr.mk.injEq, and_true] at hgo
          obtain ⟨rfl, rfl⟩ := hgo
          obtain ⟨⟨xo, xn, xc, xs⟩, hx⟩ : ∃ x, x = ls[k] := ⟨_, rfl⟩
          rw [← hx] at hcl hn60 hok hcl0 hok0
          obtain ⟨hxl, hxc, -, hxr, hxn, hxx⟩ := hok
          have hxr0 := hok0.reads
          simp only at hcl hn60 hxl hxc hxr hxn hxx hcl0 hxr0
          have HXL : Hid (xs.length = xn) := hxl
          clear hx hget hok0
          by_cases h3 : xn < 3
          · go_wp2
            go_roundw
            case rel => exact ⟨k + 1, c, v, by omega, by go_num, hear, hB⟩
            case measure => simp [intOf]; omega
          · have hfl := frm_len xs
            obtain ⟨Z, hZ⟩ : ∃ Z, (frm xs).length = Z := ⟨_, rfl⟩
            have HZ : Hid ((frm xs).length = Z) := hZ
            have hrf := rframe_any xo xc xn xs wr HXL.out (by omega) hxx hxn hxr
            rw [hZ] at hrf hfl
            have hff := feed_frm xs c hxx (by omega) (by omega)
            rw [hxl] at hfl
            have hZ1 : Z ≤ 1000 := by omega
            clear hfl hZ hxr hxl
            go_wp2_with fail
            refine hrf.mono ?_
            rintro e w2 ⟨v2, rfl, hown2, hb2⟩
            have hear2 := hear.below hb2
            have hB2 := hB.trans (hb2.mono hB.size)
            obtain ⟨vo2, ca2, rfl, -, hrd2, -⟩ := owns_form2 hown2
            have haw2 := owns_away2 (b := w1.heap.size) (v := v) hown2 hear.lt (fun g hg => (hear.row.lt g hg).2)
            have hbi := ebits_any w.heap.size w1.heap.size Z ca2 v _ vo2 (frm xs) w2 HZ.out (by omega) hrd2 haw2 hear2
            rw [hff.1, hff.2] at hbi
            have hvb : ∀ g, v.ownBlock = some g → w.heap.size ≤ g := fun g hg => (hear.row.lt g hg).1
            clear hrf hff hear hear2 hown2 hrd2 haw2 hb2 hcl hB
            go_wp2_with fail
            refine hbi.mono ?_
            rintro e w3 ⟨u3, hs3, v3, rfl, hsd, hrow, -, hear3, hfr3, -⟩
            have hB3 := hB2.trans (hfr3.below hw1 hvb hB2.size)
            obtain ⟨x, rfl, hxk, hxo⟩ := said_one hsd
            obtain ⟨uo, cap, rfl, -, -, hat⟩ := hrow.at2
            obtain ⟨gu, rfl, hc0, hc1⟩ := hat 0 (by simp)
            obtain ⟨⟨hyl, -, hyr, -⟩, -, -⟩ := hrow.each x (by simp)
            have hcl3 := (hB3.cell (p := ⟨g, off + k, none⟩) (World.block_lt_of_cell? w _ hcl0)).trans hcl0
            simp only [List.getElem_cons_zero, Nat.mul_zero, Nat.zero_add] at hc0 hc1
            have hcv1 : (convert 22 9 (.slice x.ao x.n x.cap)).run Try.prog w3.drew = .ok (.string (str xs)) w3.drew := by rw [← hxo]; exact conv_reads hyl (hyr.below (Nat.le_refl _) ((Below.refl _ _).drew))
            have hcv2 : (convert 22 9 (.slice xo xn xc)).run Try.prog w3.drew = .ok (.string (str xs)) w3.drew := conv_reads HXL.out ((hxr0.below (Nat.le_refl _) hB3).below (Nat.le_refl _) ((Below.refl _ _).drew))
            rw [hxk] at hc0
            have HEAR : Hid (EarAt w3 w.heap.size w1.heap.size v3 ⟨false, [], c, 0⟩) := hear3
            generalize x.ao = yo at hc1 hcv1
            generalize x.n = yn at hc1 hcv1
            generalize x.cap = yc at hc1 hcv1
            generalize str xs = st at hcv1 hcv2
            clear hbi hsd hrow hat hyl hyr hxk hxo hear3 hfr3 hB2 hcl0 hxr0
            have hu1 : ((1 : Int) != 1) = false := rfl
            go_wp2_with fail
            go_region_held (fun W => W.cell? ⟨gu, 0, none⟩ = some (.int .u8 0) ∧ W.cell? ⟨gu, 1, none⟩ = some (.slice yo yn yc) ∧ W.cell? ⟨g, off + k, none⟩ = some (.slice xo xn xc) ∧ (convert 22 9 (.slice yo yn yc)).run Try.prog W = .ok (.string st) W ∧ (convert 22 9 (.slice xo xn xc)).run Try.prog W = .ok (.string st) W) (exact ⟨hc0, hc1, hcl3, hcv1, hcv2⟩) (fail)
            go_wp2
            go_roundw
            case rel => exact ⟨k + 1, c, v3, by omega, by go_num, HEAR.out.below ((Below.refl _ _).drew), hB3.drew⟩
            case measure => simp [intOf]; omega
        · go_wp2_with fail
          refine (counting_any _ _ _ _ _ hear).mono ?_
          rintro e w2 ⟨rfl, hw2⟩
          obtain rfl := hw2.symm
          clear hw2
          go_wp2
          go_ret
          exact ⟨rfl, hB⟩
end Go.Proofs.Ytfjfnfofbhikdaa.Tape
