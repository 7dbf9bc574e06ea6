/- The walk of the law UnitKeeps. -/
import Derived.Test.YthkbfbjlkjfkiaaUnitOctetsW
namespace Go.Proofs.Ythkbfbjlkjfkiaa.Tape
open Go.ChangeShapes Go.WideShapes Go.ChangeAt Go.RowKit
attribute [local go_sem ↓] Go.wp_at_zero Go.wp_at_succ
attribute [local go_sem ↓] ldS_def

set_option maxRecDepth 100000 in
set_option maxHeartbeats 1000000 in
theorem keeps_out (b f : Int) (p q : Bool) (k s : Int) (wd : Bool) (ao : Option Addr) (n cap : Nat) (w : World) (hl : n < 3 ∨ (3 ≤ n ∧ 200 < n)) (hm : n ≤ maxLen) :
    Calls Try.prog 7 #[.agg #[.int .u8 b, .int .u8 f, .bool p, .bool q, .int .u8 k, .int .u8 s, .bool wd, .slice ao n cap]] w fun e w' => e = .returned (.bool true) ∧ Below w.heap.size w w' := by
  unfold maxLen at hm
  have hB0 : Below w.heap.size w (w.alloc (.cells #[.int .u8 b, .int .u8 f, .bool p, .bool q, .int .u8 k, .int .u8 s, .bool wd, .slice ao n cap] 24)) := (Below.refl _ _).alloc (Nat.le_refl _) _
  have hbox := heap_alloc_new w (.cells #[.int .u8 b, .int .u8 f, .bool p, .bool q, .int .u8 k, .int .u8 s, .bool wd, .slice ao n cap] 24)
  rcases hl with hl | ⟨hl1, hl⟩
  all_goals
    go_enter Try.func7, Try.ntmps7
    go_wp2_with fail
    refine (awake6_any _).mono ?_
    rintro e w1 ⟨rfl, hb1⟩
    obtain ⟨⟨-, -, -, -, -, -, -, c7⟩, -⟩ := unit_cells (block_keep hbox hb1 (Nat.le_refl _))
    have hB1 := hB0.trans (hb1.mono hB0.size)
    clear hbox hB0 hb1
    go_wp2_with fail
    refine (awake6_any _).mono ?_
    rintro e w2 ⟨rfl, hb2⟩
    go_wp2
    go_ret
    exact ⟨rfl, hB1.trans (hb2.mono hB1.size)⟩

theorem str_size (xs : List Int) : (str xs).size = xs.length := by
  show (str xs).data.size = _
  simp [str]

theorem str_head {hd xs : List Int} {n : Nat} (h : hd.length = n) : (str (hd ++ xs)).extract 0 n = str hd := by
  apply ByteArray.ext
  rw [ByteArray.data_extract]
  simp [str, ← h]

theorem str_rest {hd xs : List Int} {n : Nat} (h : hd.length = n) : (str (hd ++ xs)).extract n (str (hd ++ xs)).size = str xs := by
  apply ByteArray.ext
  rw [ByteArray.data_extract, str_size]
  simp [str, ← h]
  rw [List.take_of_length_le (by simp)]

/-- What a message is decoded to. -/
theorem dcd_more (b f : Int) (p q : Bool) (s : Int) (wd : Bool) (xs : List Int) (n : Nat) (h3 : 3 ≤ n) (hl : n ≤ 273) (hn : xs.length = n) : ∃ U, dcd (enc b f p q 2 s wd xs) (3 + n) = (U, 0) ∧ U.info = xs := by
  have hb : bod 2 s wd xs = xs := rfl
  refine ⟨_, dcd_ok (by omega) (by omega) ?_, ?_⟩
  · show ((min (bod 2 s wd xs).length 63 : Nat) : Int) % 64 = _
    rw [hb]; omega
  · unfold Un.of
    rw [if_pos (show 5 < 3 + n by omega)]
    rfl

set_option maxRecDepth 100000 in
set_option maxHeartbeats 2000000 in
theorem keeps_in (b f : Int) (p q : Bool) (k s : Int) (wd : Bool) (ao : Option Addr) (n cap : Nat) (xs : List Int) (w : World) (h3 : 3 ≤ n) (hl : n ≤ 200) (hb : 0 ≤ b) (hf : 0 ≤ f) (hk : 0 ≤ k) (hs : 0 ≤ s) (hn : xs.length = n) (hnil : ao = none → cap = 0) (hx : ∀ x ∈ xs, 0 ≤ x ∧ x ≤ 255) (hr : Reads w ao (xs.map (.int .u8))) :
    Calls Try.prog 7 #[.agg #[.int .u8 b, .int .u8 f, .bool p, .bool q, .int .u8 k, .int .u8 s, .bool wd, .slice ao n cap]] w fun e w' => e = .returned (.bool true) ∧ Below w.heap.size w w' := by
  have hB0 : Below w.heap.size w (w.alloc (.cells #[.int .u8 b, .int .u8 f, .bool p, .bool q, .int .u8 k, .int .u8 s, .bool wd, .slice ao n cap] 24)) := (Below.refl _ _).alloc (Nat.le_refl _) _
  have hbox := heap_alloc_new w (.cells #[.int .u8 b, .int .u8 f, .bool p, .bool q, .int .u8 k, .int .u8 s, .bool wd, .slice ao n cap] 24)
  have HN : Hid (xs.length = n) := hn
  have HX : Hid (∀ x ∈ xs, 0 ≤ x ∧ x ≤ 255) := hx
  have hnear := fun W => near_yes b f p q k s wd ao n cap 255 W (by omega) hb hf hk hs
  obtain ⟨b', hb'⟩ : ∃ b', b % 128 = b' := ⟨_, rfl⟩
  obtain ⟨f', hf'⟩ : ∃ f', f % 128 = f' := ⟨_, rfl⟩
  obtain ⟨k', hk'⟩ : ∃ k', k % 3 = k' := ⟨_, rfl⟩
  obtain ⟨s', hs'⟩ : ∃ s', s % 8 = s' := ⟨_, rfl⟩
  rw [hb', hf', hk', hs'] at hnear
  have b0 : 0 ≤ b' := by omega
  have b1 : b' ≤ 127 := by omega
  have f0 : 0 ≤ f' := by omega
  have f1 : f' ≤ 127 := by omega
  have s0 : 0 ≤ s' := by omega
  have s1 : s' ≤ 255 := by omega
  clear hn hx hb hf hk hs hb' hf' hk' hs'
  go_enter Try.func7, Try.ntmps7
  go_wp2_with fail
  refine (awake6_any _).mono ?_
  rintro e w1 ⟨rfl, hb1⟩
  have hbox1 := block_keep hbox hb1 (Nat.le_refl _)
  obtain ⟨⟨-, -, -, -, -, -, -, c7⟩, -⟩ := unit_cells hbox1
  have hld1 := ld_unit hbox1
  have hB1 := hB0.trans (hb1.mono hB0.size)
  clear hbox hB0 hb1
  go_wp2_with fail
  refine (hnear _).mono ?_
  rintro e w2 ⟨rfl, hb2⟩
  have hbox2 := block_keep hbox1 hb2 (Nat.le_refl _)
  have hB2 := hB1.trans (hb2.mono hB1.size)
  clear c7 hnear hld1
  obtain ⟨⟨c0, c1, c2, c3, c4, c5, c6, c7⟩, ff⟩ := unit_cells hbox2
  have g0 := ff 0
  have g1 := ff 1
  have g2 := ff 2
  have g3 := ff 3
  have g4 := ff 4
  have g5 := ff 5
  have g6 := ff 6
  have g7 := ff 7
  clear hbox1 hb2 hB1 ff
  go_upto_region 5 with fail
  obtain ⟨W, hW⟩ : ∃ W, W = (put8 w2 w.heap.size (.int .u8 b') (.int .u8 f') (.bool p) (.bool q) (.int .u8 k') (.int .u8 s') (.bool wd) (.slice ao n cap)).setCell ⟨w.heap.size, 4, none⟩ (.int .u8 2) := ⟨_, rfl⟩
  have hboxW := row_set (cs := [.int .u8 b', .int .u8 f', .bool p, .bool q, .int .u8 k', .int .u8 s', .bool wd, .slice ao n cap]) (put8_box hbox2 (.int .u8 b') (.int .u8 f') (.bool p) (.bool q) (.int .u8 k') (.int .u8 s') (.bool wd) (.slice ao n cap)) 4 (.int .u8 2)
  have hBW := Below.setCell (p := ⟨w.heap.size, 4, none⟩) (put8_below hB2 (Nat.le_refl _) (.int .u8 b') (.int .u8 f') (.bool p) (.bool q) (.int .u8 k') (.int .u8 s') (.bool wd) (.slice ao n cap)) (Nat.le_refl _) (.int .u8 2)
  rw [← hW] at hboxW hBW
  replace hboxW : W.heap[w.heap.size]? = some (.cells #[.int .u8 b', .int .u8 f', .bool p, .bool q, .int .u8 2, .int .u8 s', .bool wd, .slice ao n cap] 24 (0, 0)) := hboxW
  unfold put8 at hW
  rw [← hW]
  clear hW hbox2 hB2 c0 c1 c2 c3 c4 c5 c6 c7 g0 g1 g2 g3 g4 g5 g6 g7
  have hrW := hr.below (Nat.le_refl _) hBW
  obtain ⟨⟨-, -, -, -, -, -, -, c7⟩, g⟩ := unit_cells hboxW
  have hBsz := heap_lt hboxW
  clear hr g
  go_upto_region 8 with (at_builtin; refine append_reads rfl _ _ rfl W.heap.size _ 0 [] rfl owns_nil ao n cap xs rfl HN.out hrW hnil (by omega) (Nat.le_refl _) ?_; intro v3 w3 hown3 hb3; rw [Nat.zero_add, List.nil_append] at hown3; obtain ⟨gi, ci, rfl⟩ := Joins.ownsRow_form hown3 (by omega); have hbox3 := block_keep hboxW hb3 (Nat.le_refl _); clear c7; obtain ⟨⟨-, -, -, -, -, -, -, c7⟩, fg⟩ := unit_cells hbox3; have g7 := fg 7; clear fg)
  obtain ⟨w4, hw4⟩ : ∃ w4, w4 = w3.setCell ⟨w.heap.size, 7, none⟩ (.slice (some ⟨gi, 0, none⟩) n ci) := ⟨_, rfl⟩
  have hbox4 := row_set (cs := [.int .u8 b', .int .u8 f', .bool p, .bool q, .int .u8 2, .int .u8 s', .bool wd, .slice ao n cap]) hbox3 7 (.slice (some ⟨gi, 0, none⟩) n ci)
  have hown4 := ownsRow_setCell_below hown3 (a := ⟨w.heap.size, 7, none⟩) hBsz (.slice (some ⟨gi, 0, none⟩) n ci)
  have hB4 := Below.setCell (p := ⟨w.heap.size, 7, none⟩) (hBW.trans (hb3.mono hBW.size)) (Nat.le_refl _) (.slice (some ⟨gi, 0, none⟩) n ci)
  rw [← hw4] at hbox4 hown4 hB4
  replace hbox4 : w4.heap[w.heap.size]? = some (.cells #[.int .u8 b', .int .u8 f', .bool p, .bool q, .int .u8 2, .int .u8 s', .bool wd, .slice (some ⟨gi, 0, none⟩) n ci] 24 (0, 0)) := hbox4
  rw [← hw4]
  clear hw4 hbox3 hown3 hb3 hBW hboxW hrW c7 g7
  have hr4 := Reads.of_owns hown4
  have hld4 := ld_unit hbox4
  have hci := owns_cap hown4
  obtain ⟨U, hU, hUi⟩ := dcd_more b' f' p q s' wd xs n h3 (by omega) HN.out
  have hR : rgt b' f' 2 s' n = 0 := by
    unfold rgt
    rw [if_neg (by omega), if_neg (by omega), if_neg (by omega), if_neg (by omega)]
  have henc := encode_ok b' f' p q 2 s' wd (some ⟨gi, 0, none⟩) n ci xs w4 b0 f0 (by omega) b1 f1 (by omega) hR HN.out (by omega) hr4 (fun h => by cases h)
  rw [show (bod 2 s' wd xs).length = n from HN.out] at henc
  have HER := enc_range b' f' p q 2 s' wd xs b0 f0 b1 f1 s0 s1 HX.out
  obtain ⟨en, hen⟩ : ∃ en, enc b' f' p q 2 s' wd xs = en := ⟨_, rfl⟩
  obtain ⟨hd, hhd, hhl⟩ : ∃ hd : List Int, en = hd ++ xs ∧ hd.length = 3 := ⟨[hdo b' p, hdo f' q, ((min (bod 2 s' wd xs).length 63 : Nat) : Int)], by rw [← hen]; rfl, rfl⟩
  rw [hen] at henc HER hU
  have HD : Hid (dcd en (3 + n) = (U, 0)) := hU
  have HUi : Hid (U.info = xs) := hUi
  have HEX : Hid (∀ x ∈ en, 0 ≤ x ∧ x ≤ 255) := HER
  have HHD : Hid (en = hd ++ xs) := hhd
  have HHL : Hid (hd.length = 3) := hhl
  have HL : Hid (en.length = 3 + n) := by show _ = _; rw [hhd, List.length_append, hhl, HN.out]
  obtain ⟨M, hM⟩ : ∃ M, 3 + n = M := ⟨_, rfl⟩
  have HM : Hid (3 + n = M) := hM
  have hM4 : 6 ≤ M := by omega
  have hM5 : M ≤ 300 := by omega
  rw [hM] at henc HD HL
  clear hU hUi HER hen hhd hhl hR hM b0 b1 f0 f1 s0 s1 hr4
  go_wp2_with fail
  refine henc.mono ?_
  rintro e w5 ⟨v, rfl, hown5, hb5⟩
  obtain ⟨gp, cp, rfl⟩ := Joins.ownsRow_form hown5 (by omega)
  have hcp := owns_cap hown5
  have hcv5 := conv_reads (cap := cp) HL.out (Reads.of_owns hown5)
  obtain ⟨S, hS⟩ : ∃ S, str en = S := ⟨_, rfl⟩
  rw [hS] at hcv5
  have HS : Hid (str en = S) := hS
  have hoi5 := owns_below hown4 hb5
  have hli4 := owns_lies hown4
  have hB5 := hB4.trans (hb5.mono hB4.size)
  obtain ⟨x0, hx0⟩ : ∃ x0, x0 = xs.getD 0 0 := ⟨_, rfl⟩
  obtain ⟨i0, i1, i2⟩ := owns_cell hoi5 0 (by have := HN.out; simp; omega)
  rw [List.getElem_map, ← getD_get _ _ (by have := HN.out; omega), ← hx0] at i0
  have hgi : gi < w4.heap.size := (hli4 _ rfl).2
  have hx00 : 0 ≤ x0 ∧ x0 ≤ 255 := by
    rw [hx0, getD_get _ _ (by have := HN.out; omega)]; exact HX.out _ (List.getElem_mem _)
  obtain ⟨x00, x01⟩ := hx00
  have hBsz4 : w.heap.size ≤ w4.heap.size := hB4.size
  clear henc hS hown4 hoi5 hli4 hb5 hB4 hbox4 hld4 hx0
  go_upto_region 11 with fail
  obtain ⟨w6, hw6⟩ : ∃ w6, w6 = w5.setCell ⟨gi, 0, none⟩ (.int .u8 ((x0 + 1) % 256)) := ⟨_, rfl⟩
  have hown6 := ownsRow_setCell_below hown5 (a := ⟨gi, 0, none⟩) hgi (.int .u8 ((x0 + 1) % 256))
  have hB6 := Below.setCell (p := ⟨gi, 0, none⟩) hB5 (show w.heap.size ≤ gi by omega) (.int .u8 ((x0 + 1) % 256))
  rw [← hw6] at hown6 hB6
  rw [← hw6]
  clear hw6 hown5 hB5 i0 i1 i2 hcv5 x00 x01 hgi hci
  have hr6 := Reads.of_owns hown6
  go_wp2_with fail
  refine (decode_any (some ⟨gp, 0, none⟩) M cp en (U, 0) w6 HL.out hcp HEX.out HD.out hr6).mono ?_
  rintro e w7 ⟨d1, m1, k1, rfl, hm1, hk1, hd1, -, hdl, hb7⟩
  have hown7 := owns_below hown6 hb7
  have hgp := (owns_lies hown6 _ rfl).2
  have hgp4 := (owns_lies hown6 _ rfl).1
  have hB7 := hB6.trans (hb7.mono hB6.size)
  go_upto_region 12 with fail
  obtain ⟨w8, hw8⟩ : ∃ w8, w8 = w7.alloc (.cells #[.int .u8 U.b, .int .u8 U.f, .bool U.p, .bool U.q, .int .u8 U.k, .int .u8 U.s, .bool U.wd, .slice d1 m1 k1] 24) := ⟨_, rfl⟩
  have hb8 : Below w7.heap.size w7 w8 := by rw [hw8]; exact (Below.refl _ _).alloc (Nat.le_refl _) _
  have hxv : w8.heap[w7.heap.size]? = some (.cells #[.int .u8 U.b, .int .u8 U.f, .bool U.p, .bool U.q, .int .u8 U.k, .int .u8 U.s, .bool U.wd, .slice d1 m1 k1] 24 (0, 0)) := by rw [hw8]; exact heap_alloc_new _ _
  rw [← hw8]
  have hown8 := owns_below hown7 hb8
  have hrd8 := hd1.below (Nat.le_refl _) hb8
  rw [HUi.out] at hrd8 hm1
  have HM1 : Hid (xs.length = m1) := hm1
  have hB8 := hB7.trans (hb8.mono hB7.size)
  have hdn : ∀ x, d1 = some x → x.block ≠ gp := fun x hx => by
    have := (hdl x hx).1
    omega
  have hcvd := conv_reads (cap := k1) hm1 hrd8
  obtain ⟨⟨-, -, -, -, -, -, -, c7⟩, -⟩ := unit_cells hxv
  obtain ⟨y, hy⟩ : ∃ y, y = en.getD 3 0 := ⟨_, rfl⟩
  obtain ⟨j0, j1, j2⟩ := owns_cell hown8 3 (by have := HL.out; simp; omega)
  rw [List.getElem_map, ← getD_get _ _ (by have := HL.out; omega), ← hy] at j0
  have hy0 : 0 ≤ y ∧ y ≤ 255 := by
    rw [hy, getD_get _ _ (by have := HL.out; omega)]; exact HEX.out _ (List.getElem_mem _)
  obtain ⟨y0, y1⟩ := hy0
  have HDN : Hid (∀ x, d1 = some x → x.block ≠ gp) := hdn
  have HRD : Hid (Reads w8 d1 (xs.map (.int .u8))) := hrd8
  have HXV : Hid (w8.heap[w7.heap.size]? = some (.cells #[.int .u8 U.b, .int .u8 U.f, .bool U.p, .bool U.q, .int .u8 U.k, .int .u8 U.s, .bool U.wd, .slice d1 m1 k1] 24 (0, 0))) := hxv
  have HO8 : Hid (w8.ownsRow w4.heap.size 5 1 (.slice (some ⟨gp, 0, none⟩) M cp) M (en.map (.int .u8))) := hown8
  have HB8 : Hid (Below w.heap.size w w8) := hB8
  have HG : Hid (gp < w7.heap.size) := Nat.lt_of_lt_of_le hgp hb7.size
  have HG4 : Hid (w.heap.size ≤ gp) := Nat.le_trans hBsz4 hgp4
  clear hw8 hown6 hB6 hr6 hb7 hown7 hgp hgp4 hB7 hb8 hxv hown8 hrd8 hm1 hB8 hdn hy hd1 hdl hk1 j2
  go_upto_region 14 with fail
  obtain ⟨w9, hw9⟩ : ∃ w9, w9 = w8.setCell ⟨gp, 3, none⟩ (.int .u8 ((y + 1) % 256)) := ⟨_, rfl⟩
  have hown9 := owns_set HO8.out 3 (.int .u8 ((y + 1) % 256))
  have hB9 := Below.setCell (p := ⟨gp, 3, none⟩) HB8.out HG4.out (.int .u8 ((y + 1) % 256))
  have hrd9 := reads_set (B := gp) (i := 3) (v := .int .u8 ((y + 1) % 256)) HRD.out HDN.out
  have hxv9 : (w8.setCell ⟨gp, 3, none⟩ (.int .u8 ((y + 1) % 256))).heap[w7.heap.size]? = some (.cells #[.int .u8 U.b, .int .u8 U.f, .bool U.p, .bool U.q, .int .u8 U.k, .int .u8 U.s, .bool U.wd, .slice d1 m1 k1] 24 (0, 0)) := by
    rw [Below.heap_setCell _ _ _ _ (by have := HG.out; simp only; omega)]; exact HXV.out
  rw [← hw9] at hown9 hB9 hrd9 hxv9
  rw [← hw9]
  have hrh9 : Reads w9 (some ⟨gp, 0, none⟩) (hd.map (.int .u8)) := by
    have := (Reads.of_owns hown9).take 3
    rwa [HHD.out, List.map_append, List.set_append_right _ _ (by simp [HHL.out]), List.take_append_of_le_length (by simp [HHL.out]), List.take_of_length_le (by simp [HHL.out])] at this
  have hcv1 := conv_reads (cap := cp) HHL.out (hrh9.below (Nat.le_refl _) ((Below.refl _ _).drew))
  have hcv2 := conv_reads (cap := k1) HM1.out (hrd9.below (Nat.le_refl _) ((Below.refl _ _).drew))
  have hcv3 := (unit_cells (block_keep hxv9 ((Below.refl _ _).drew) (Nat.le_refl _))).1.2.2.2.2.2.2.2
  have E1 : ((str hd).toList == (S.extract 0 3).toList) = true := by rw [← HS.out, HHD.out, str_head HHL.out]; simp
  have E2 : ((str xs).toList == (S.extract 3 S.size).toList) = true := by rw [← HS.out, HHD.out, str_rest HHL.out]; simp
  have E3 : (3 : Int) ≤ (S.size : Int) := by rw [← HS.out, str_size, HL.out]; omega
  have hS3 : Hid (w9.drew.cell? ⟨w7.heap.size, 7, none⟩ = some (.slice d1 m1 k1) ∧ (convert 22 9 (.slice (some ⟨gp, 0, none⟩) 3 cp)).run Try.prog w9.drew = .ok (.string (str hd)) w9.drew ∧ (convert 22 9 (.slice d1 m1 k1)).run Try.prog w9.drew = .ok (.string (str xs)) w9.drew) := ⟨hcv3, hcv1, hcv2⟩
  have e4 : (3 : Int) ≤ (cp : Int) := by omega
  have e5 : (0 : Int) ≤ 3 := by omega
  clear hw9 hown9 hrd9 hxv9 hrh9 hcvd c7 j0 j1 y0 y1 hcv1 hcv2 hcv3
  go_region_held (fun W => W.cell? ⟨w7.heap.size, 7, none⟩ = some (.slice d1 m1 k1) ∧ (convert 22 9 (.slice (some ⟨gp, 0, none⟩) 3 cp)).run Try.prog W = .ok (.string (str hd)) W ∧ (convert 22 9 (.slice d1 m1 k1)).run Try.prog W = .ok (.string (str xs)) W) (exact hS3.out) (fail)
  go_wp2
  go_ret
  exact ⟨rfl, hB9.drew⟩

theorem keeps_walk (v : Value) (w : World) (hv : IsUnit w v) :
    Calls Try.prog 7 #[v] w fun e w' => e = .returned (.bool true) ∧ Below w.heap.size w w' := by
  obtain ⟨b, f, p, q, k, s, wd, ao, n, cap, xs, rfl, hb, hf, hk, hs, hn, hc, hm, hnil, hr, hx⟩ := hv
  by_cases hl : n < 3 ∨ (3 ≤ n ∧ 200 < n)
  · exact keeps_out b f p q k s wd ao n cap w hl (Nat.le_trans hc hm)
  · exact keeps_in b f p q k s wd ao n cap xs w (by omega) (by omega) hb.1 hf.1 hk.1 hs.1 hn hnil hx hr
end Go.Proofs.Ythkbfbjlkjfkiaa.Tape
