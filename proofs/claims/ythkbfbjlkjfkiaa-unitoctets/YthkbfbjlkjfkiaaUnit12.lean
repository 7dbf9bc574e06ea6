/- The contract of the reference's Encode, of the other kinds. -/
import Derived.Test.YthkbfbjlkjfkiaaUnit11
import Derived.Test.YthkbfbjlkjfkiaaUnitSame1
namespace Go.Proofs.Ythkbfbjlkjfkiaa.Tape
open Go.ChangeShapes Go.WideShapes Go.ChangeAt Go.RowKit

theorem form_nil {vo : Option Addr} {n ca : Nat} (h : (vo = none ∧ n = 0 ∧ ca = 0) ∨ ∃ g, vo = some ⟨g, 0, none⟩) : vo = none → ca = 0 := by
  rcases h with ⟨_, _, h⟩ | ⟨g, h⟩
  · exact fun _ => h
  · exact fun h' => by rw [h] at h'; cases h'

set_option maxRecDepth 100000 in
set_option maxHeartbeats 2000000 in
theorem renc_two (b f : Int) (p q : Bool) (s : Int) (ao : Option Addr) (n cap : Nat) (xs : List Int) (w : World) (hb0 : 0 ≤ b) (hf0 : 0 ≤ f) (hb127 : b ≤ 127) (hf127 : f ≤ 127) :
    Calls Try.prog 14 #[.agg #[.int .u8 b, .int .u8 f, .bool p, .bool q, .int .u8 1, .int .u8 s, .bool true, .slice ao n cap]] w fun e w' => ∃ v, e = .returned v ∧ w'.ownsRow w.heap.size 5 1 v 5 ((enc b f p q 1 s true xs).map (.int .u8)) ∧ Below w.heap.size w w' := by
  have HE : Hid (∀ H1 H2, H1 = hdo b p → H2 = hdo f q → (enc b f p q 1 s true xs).map (Value.int .u8) = [.int .u8 H1, .int .u8 H2, .int .u8 2] ++ [s, 0].map (.int .u8)) := fun H1 H2 h1 h2 => enc_as b f p q 1 s true xs [s, 0] H1 H2 2 h1 h2 rfl rfl
  have hB0 : Below w.heap.size w (w.alloc (.cells #[.int .u8 b, .int .u8 f, .bool p, .bool q, .int .u8 1, .int .u8 s, .bool true, .slice ao n cap] 24)) := (Below.refl _ _).alloc (Nat.le_refl _) _
  have hbox := heap_alloc_new w (.cells #[.int .u8 b, .int .u8 f, .bool p, .bool q, .int .u8 1, .int .u8 s, .bool true, .slice ao n cap] 24)
  have HB0 : Hid (Below w.heap.size w _) := hB0
  have HX : Hid ((w.alloc (.cells #[.int .u8 b, .int .u8 f, .bool p, .bool q, .int .u8 1, .int .u8 s, .bool true, .slice ao n cap] 24)).heap[w.heap.size]? = _) := hbox
  clear hB0 hbox
  cases p <;> cases q
  all_goals
    go_enter Try.func14, Try.ntmps14
    go_wp2_with (first
      | (at_builtin; have hr2 := hr2; refine append_reads rfl _ _ rfl w.heap.size _ 3 [_, _, _] rfl (owns_new_at (by simp) (by omega) [_, _, _] 3 rfl (by unfold maxLen; omega)) (some ⟨g2, 0, none⟩) 2 ca2 [s, 0] rfl rfl (hr2.below (Nat.le_refl _) ((Below.refl _ _).alloc (Nat.le_refl _) _)) (fun h => by cases h) (by omega) (by simp; omega) ?_; intro v5 w5 hown5 hb5)
      | (at_builtin; have hown1 := hown1; refine append_reads rfl _ _ rfl (w.heap.size + 1) _ 1 ([s].map (.int .u8)) rfl (owns_below hown1 ((Below.refl _ _).alloc (Nat.le_refl _) _)) (some ⟨w1.heap.size, 0, none⟩) 1 1 [0] rfl rfl (reads_lit_at _ [0] _ rfl) (fun h => by cases h) (by omega) (by simp; omega) ?_; intro v2 w2 hown2 hb2; obtain ⟨g2, ca2, rfl⟩ := Joins.ownsRow_form hown2 (by omega); have hx2 : w2.heap[w.heap.size]? = _ := (hb2.block _ (by omega)).trans (heap_more hx1 _); clear c4 c6; obtain ⟨⟨-, -, -, -, c4, -, c6, -⟩, -⟩ := unit_cells hx2; have hB2 := (hB1.alloc hB1s _).trans (hb2.mono (by omega)); have hr2 := Reads.of_owns hown2; have hB2s := hB2.size; clear hx1 hx2 hown1 hown2 hb2)
      | (at_builtin; refine append_reads rfl _ _ rfl (w.heap.size + 1) _ 0 [] rfl owns_nil (some ⟨w.heap.size + 1, 0, none⟩) 1 1 [s] rfl rfl (reads_lit_at _ [s] _ (by simp)) (fun h => by cases h) (by omega) (by simp) ?_; intro v1 w1 hown1 hb1; rw [Nat.zero_add, List.nil_append] at hown1; obtain ⟨g1, ca1, rfl⟩ := Joins.ownsRow_form hown1 (by omega); have hx1 : w1.heap[w.heap.size]? = _ := (hb1.block _ (by omega)).trans (heap_more HX.out _); obtain ⟨⟨-, -, -, -, c4, -, c6, -⟩, -⟩ := unit_cells hx1; have hB1 := (HB0.out.alloc (by simp) _).trans (hb1.mono (by omega)); have hB1s := hB1.size; have hsz1 : w.heap.size + 1 ≤ w1.heap.size := (by have := hb1.size; simp at this; omega); clear hb1))
    go_ret
    exact ⟨_, rfl, by rw [HE.out _ _ rfl rfl]; exact hown5, (hB2.alloc hB2s _).trans hb5⟩

set_option maxRecDepth 100000 in
set_option maxHeartbeats 2000000 in
theorem renc_more (b f : Int) (p q : Bool) (s : Int) (wd : Bool) (ao : Option Addr) (n cap : Nat) (xs : List Int) (w : World) (hb0 : 0 ≤ b) (hf0 : 0 ≤ f) (hb127 : b ≤ 127) (hf127 : f ≤ 127) (hn : xs.length = n) (hl : n ≤ 1000) (hr : Reads w ao (xs.map (.int .u8))) (hnil : ao = none → cap = 0) :
    Calls Try.prog 14 #[.agg #[.int .u8 b, .int .u8 f, .bool p, .bool q, .int .u8 2, .int .u8 s, .bool wd, .slice ao n cap]] w fun e w' => ∃ v, e = .returned v ∧ w'.ownsRow w.heap.size 5 1 v (3 + n) ((enc b f p q 2 s wd xs).map (.int .u8)) ∧ Below w.heap.size w w' := by
  have HE : Hid (∀ H1 H2 L, H1 = hdo b p → H2 = hdo f q → L = ((min n 63 : Nat) : Int) → (enc b f p q 2 s wd xs).map (Value.int .u8) = [.int .u8 H1, .int .u8 H2, .int .u8 L] ++ xs.map (.int .u8)) := fun H1 H2 L h1 h2 hL => enc_as b f p q 2 s wd xs xs H1 H2 L h1 h2 rfl (by rw [hn]; exact hL)
  have hB0 : Below w.heap.size w (w.alloc (.cells #[.int .u8 b, .int .u8 f, .bool p, .bool q, .int .u8 2, .int .u8 s, .bool wd, .slice ao n cap] 24)) := (Below.refl _ _).alloc (Nat.le_refl _) _
  have HR0 : Hid (Reads _ ao (xs.map (.int .u8))) := hr.below (Nat.le_refl _) hB0
  have HB0 : Hid (Below w.heap.size w _) := hB0
  have HN : Hid (xs.length = n) := hn
  clear hB0 hr hn
  cases p <;> cases q <;> by_cases h63 : 63 < n
  all_goals
    go_enter Try.func14, Try.ntmps14
    go_wp2_with (first
      | (at_builtin; have hr1 := hr1; refine append_reads rfl _ _ rfl w.heap.size _ 3 [_, _, _] rfl (owns_new_at (by simp) (by omega) [_, _, _] 3 rfl (by unfold maxLen; omega)) vo n ca1 xs rfl HN.out (hr1.below (Nat.le_refl _) ((Below.refl _ _).alloc (Nat.le_refl _) _)) hvn (by omega) (by simp; omega) ?_; intro v5 w5 hown5 hb5)
      | (at_builtin; refine append_reads rfl _ _ rfl (w.heap.size + 1) _ 0 [] rfl owns_nil ao n cap xs rfl HN.out HR0.out hnil (by omega) (by simp) ?_; intro v1 w1 hown1 hb1; rw [Nat.zero_add, List.nil_append] at hown1; obtain ⟨vo, ca1, rfl, hca1, hr1, hvo⟩ := owns_form hown1; have hB1 := HB0.out.trans (hb1.mono (by omega)); have hvn := form_nil hvo; have hB1s := hB1.size; clear hown1 hb1 hvo))
    go_ret
    exact ⟨_, rfl, by first | (rw [HE.out _ _ 63 rfl rfl (by omega)]; exact hown5) | (rw [HE.out _ _ (n : Int) rfl rfl (by omega)]; exact hown5), (hB1.alloc hB1s _).trans hb5⟩

theorem renc_any (b f : Int) (p q : Bool) (k s : Int) (wd : Bool) (ao : Option Addr) (n cap : Nat) (xs : List Int) (w : World) (hb0 : 0 ≤ b) (hf0 : 0 ≤ f) (hb127 : b ≤ 127) (hf127 : f ≤ 127) (hk : k = 0 ∨ k = 1 ∨ k = 2) (hn : xs.length = n) (hl : n ≤ 1000) (hr : Reads w ao (xs.map (.int .u8))) (hnil : ao = none → cap = 0) :
    Calls Try.prog 14 #[.agg #[.int .u8 b, .int .u8 f, .bool p, .bool q, .int .u8 k, .int .u8 s, .bool wd, .slice ao n cap]] w fun e w' => ∃ v, e = .returned v ∧ w'.ownsRow w.heap.size 5 1 v (3 + (bod k s wd xs).length) ((enc b f p q k s wd xs).map (.int .u8)) ∧ Below w.heap.size w w' := by
  rcases hk with rfl | rfl | rfl
  · exact renc_fill b f p q s wd ao n cap xs w hb0 hf0 hb127 hf127
  · cases wd
    · exact renc_one b f p q s ao n cap xs w hb0 hf0 hb127 hf127
    · exact renc_two b f p q s ao n cap xs w hb0 hf0 hb127 hf127
  · have := renc_more b f p q s wd ao n cap xs w hb0 hf0 hb127 hf127 hn hl hr hnil
    rw [← hn] at this ⊢
    exact this

theorem enc_range (b f : Int) (p q : Bool) (k s : Int) (wd : Bool) (xs : List Int) (hb0 : 0 ≤ b) (hf0 : 0 ≤ f) (hb127 : b ≤ 127) (hf127 : f ≤ 127) (hs0 : 0 ≤ s) (hs1 : s ≤ 255) (hx : ∀ x ∈ xs, 0 ≤ x ∧ x ≤ 255) : ∀ x ∈ enc b f p q k s wd xs, 0 ≤ x ∧ x ≤ 255 := by
  have hbod : ∀ x ∈ bod k s wd xs, 0 ≤ x ∧ x ≤ 255 := by
    unfold bod
    split
    · exact hx
    · split
      · split
        · intro x hxm
          simp at hxm
          omega
        · intro x hxm
          simp at hxm
          omega
      · simp
  intro x hxm
  unfold enc at hxm
  simp only [List.mem_cons] at hxm
  rcases hxm with rfl | rfl | rfl | h
  · unfold hdo; split <;> omega
  · unfold hdo; split <;> omega
  · omega
  · exact hbod x h

theorem rdecode_at (ao : Option Addr) (n cap : Nat) (xs : List Int) (D : Un × Nat) (w : World) (hn : xs.length = n) (hcap : n ≤ cap) (hx : ∀ x ∈ xs, 0 ≤ x ∧ x ≤ 255) (hD : dcd xs n = D) (B : Nat) (hB : Lies w B ao) (h : Reads w ao (xs.map (.int .u8))) :
    Calls Try.prog 18 #[.slice ao n cap] w fun e w' => Dec B w w' D e := by
  subst hD
  by_cases h3 : n < 3
  · refine (rdecode_short ao n cap w h3).mono ?_
    rintro e w' ⟨rfl, hb⟩
    exact Dec.err (dcd_short h3) hb
  by_cases h6 : 276 < n
  · refine (rdecode_long ao n cap w h6).mono ?_
    rintro e w' ⟨rfl, hb⟩
    exact Dec.err (dcd_long h6) hb
  obtain ⟨g, off, rfl⟩ := reads_some h (by simp; omega)
  obtain ⟨c0, r0, r0'⟩ := byte_at h hx 0 (by omega)
  obtain ⟨c1, r1, r1'⟩ := byte_at h hx 1 (by omega)
  obtain ⟨c2, r2, r2'⟩ := byte_at h hx 2 (by omega)
  rw [Nat.add_zero] at c0
  by_cases hL : xs.getD 2 0 % 64 = ((min (n - 3) 63 : Nat) : Int)
  · have hok := dcd_ok h3 h6 hL
    rw [hok]
    have hn' : n = 3 ∨ n = 4 ∨ n = 5 ∨ 5 < n := by omega
    rcases hn' with rfl | rfl | rfl | h5
    · refine (rdecode_fill g off cap _ _ _ w hcap r0 r0' r1 r1' r2 r2' hL c0 c1 c2).mono ?_
      rintro e w' ⟨rfl, hb⟩
      exact Dec.fill rfl hb
    · obtain ⟨c3, r3, r3'⟩ := byte_at h hx 3 (by omega)
      refine (rdecode_one g off cap _ _ _ _ w hcap r0 r0' r1 r1' r2 r2' r3 r3' hL c0 c1 c2 c3).mono ?_
      rintro e w' ⟨rfl, hb⟩
      exact Dec.fill rfl hb
    · obtain ⟨c3, r3, r3'⟩ := byte_at h hx 3 (by omega)
      refine (rdecode_two g off cap _ _ _ _ w hcap r0 r0' r1 r1' r2 r2' r3 r3' hL c0 c1 c2 c3).mono ?_
      rintro e w' ⟨rfl, hb⟩
      exact Dec.fill rfl hb
    · have hr := h.drop 3
      rw [← List.map_drop] at hr
      have hlt : g < w.heap.size := World.block_lt_of_cell? w ⟨g, off, none⟩ c0
      refine (rdecode_more g off n (n - 3) cap _ _ _ _ w (by omega) (by omega) (by omega) hcap r0 r0' r1 r1' r2 r2' rfl hL c0 c1 c2).mono ?_
      rintro e w' ⟨rfl, hb⟩
      have hU : Un.of xs n = ⟨xs.getD 0 0 % 128, xs.getD 1 0 % 128, decide (128 ≤ xs.getD 0 0), decide (128 ≤ xs.getD 1 0), 2, 0, false, xs.drop 3⟩ := by
        unfold Un.of
        rw [if_neg (by omega), if_neg (by omega), if_neg (by omega), if_pos h5, decide_eq_false (show ¬ n = 5 by omega)]
      rw [hU]
      refine ⟨_, _, _, rfl, by simp; omega, by omega, hr.below (Nat.le_refl _) hb, (fun h => by cases h), ?_, hb⟩
      intro x hx
      simp only [Option.some.injEq] at hx
      subst hx
      exact ⟨(hB _ rfl).1, Nat.lt_of_lt_of_le hlt hb.size⟩
  · refine (rdecode_form g off n cap (n - 3) (xs.getD 2 0) _ w (by omega) (by omega) r2 r2' rfl hL c2).mono ?_
    rintro e w' ⟨rfl, hb⟩
    exact Dec.err (dcd_form h3 h6 hL) hb

theorem reads_set {w : World} {a : Option Addr} {vs : List Value} {B i : Nat} {v : Value} (h : Reads w a vs) (hl : ∀ x, a = some x → x.block ≠ B) : Reads (w.setCell ⟨B, i, none⟩ v) a vs := fun k u hk => by
  obtain ⟨g, off, e, hc⟩ := h k u hk
  refine ⟨g, off, e, ?_⟩
  rw [World.cell?_setCell_far _ _ _ _ (fun h => hl _ e h.symm)]
  exact hc

theorem reads_put8 {w : World} {a : Option Addr} {vs : List Value} {B : Nat} (h : Reads w a vs) (hl : Lies w (B + 1) a) (c0 c1 c2 c3 c4 c5 c6 c7 : Value) : Reads (put8 w B c0 c1 c2 c3 c4 c5 c6 c7) a vs := by
  have hl' : ∀ x, a = some x → x.block ≠ B := fun x hx => by have := (hl x hx).1; omega
  exact reads_set (reads_set (reads_set (reads_set (reads_set (reads_set (reads_set (reads_set h hl') hl') hl') hl') hl') hl') hl') hl'

set_option maxRecDepth 100000 in
set_option maxHeartbeats 2000000 in
theorem plain_any (b f : Int) (p q : Bool) (k s : Int) (wd : Bool) (ao : Option Addr) (n cap : Nat) (xs : List Int) (U : Un) (E : Nat) (w : World) (hb0 : 0 ≤ b) (hf0 : 0 ≤ f) (hb127 : b ≤ 127) (hf127 : f ≤ 127) (hs0 : 0 ≤ s) (hs1 : s ≤ 255) (hk : k = 0 ∨ k = 1 ∨ k = 2) (hn : xs.length = n) (hl : n ≤ 1000) (hx : ∀ x ∈ xs, 0 ≤ x ∧ x ≤ 255) (hr : Reads w ao (xs.map (.int .u8))) (hnil : ao = none → cap = 0)
    (hD : dcd (enc b f p q k s wd xs) (3 + (bod k s wd xs).length) = (U, E)) :
    Calls Try.prog 16 #[.agg #[.int .u8 b, .int .u8 f, .bool p, .bool q, .int .u8 k, .int .u8 s, .bool wd, .slice ao n cap]] w fun e w' =>
      ∃ vo m ca, e = .returned (.agg #[.int .u8 U.b, .int .u8 U.f, .bool U.p, .bool U.q, .int .u8 U.k, .int .u8 U.s, .bool U.wd, .slice vo m ca]) ∧ U.info.length = m ∧ Reads w' vo (U.info.map (.int .u8)) ∧ Below w.heap.size w w' := by
  obtain ⟨hB0, hbx, hbz⟩ : Below w.heap.size w ((w.alloc (.cells #[.int .u8 b, .int .u8 f, .bool p, .bool q, .int .u8 k, .int .u8 s, .bool wd, .slice ao n cap] 24)).alloc (.cells #[.int .u8 0, .int .u8 0, .bool false, .bool false, .int .u8 0, .int .u8 0, .bool false, .slice none 0 0] 24)) ∧ _ ∧ _ := two_boxes w _ _
  have HD : Hid (dcd (enc b f p q k s wd xs) (3 + (bod k s wd xs).length) = (U, E)) := hD
  have HER := enc_range b f p q k s wd xs hb0 hf0 hb127 hf127 hs0 hs1 hx
  have hrenc := renc_any b f p q k s wd ao n cap xs _ hb0 hf0 hb127 hf127 hk hn hl (hr.below (Nat.le_refl _) hB0) hnil
  have HX : Hid (∀ x ∈ enc b f p q k s wd xs, 0 ≤ x ∧ x ≤ 255) := HER
  have HL : Hid ((enc b f p q k s wd xs).length = 3 + (bod k s wd xs).length) := by show _ = _; simp [enc]; omega
  obtain ⟨ML, hML⟩ : ∃ ML, 3 + (bod k s wd xs).length = ML := ⟨_, rfl⟩
  rw [hML] at HD HL hrenc
  clear hD HER hML hk hn hl hx hr hnil hb0 hf0 hb127 hf127 hs0 hs1
  go_enter Try.func16, Try.ntmps16
  go_wp2_with fail
  refine hrenc.mono ?_
  rintro e w1 ⟨v, rfl, hown1, hb1⟩
  obtain ⟨vo, ca, rfl, hca, hr1, -⟩ := owns_form hown1
  have hli := owns_lies hown1
  simp at hli
  have hbz1 := block_keep hbz hb1 (Nat.le_refl _)
  have hB1 := hB0.trans (hb1.mono hB0.size)
  clear hrenc hown1 hbx hbz hb1 hB0
  go_wp2_with fail
  refine (rdecode_at vo ML ca _ (U, E) w1 HL.out hca HX.out HD.out _ hli hr1).mono ?_
  rintro e w2 ⟨d, m, kk, rfl, hm, hk2, hd, -, hdl, hb2⟩
  have hbz2 := block_keep hbz1 hb2 (Nat.le_refl _)
  have hB2 := hB1.trans (hb2.mono hB1.size)
  obtain ⟨⟨c0, c1, c2, c3, c4, c5, c6, c7⟩, ff⟩ := unit_cells hbz2
  have f0 := ff 0
  have f1 := ff 1
  have f2 := ff 2
  have f3 := ff 3
  have f4 := ff 4
  have f5 := ff 5
  have f6 := ff 6
  have f7 := ff 7
  have hlt := heap_lt hbz2
  clear hr1 hca hb2 hbz1 hB1 ff
  have HDL : Hid (Lies w2 (w.heap.size + 1 + 1) d) := hdl
  have HRD : Hid (Reads w2 d (U.info.map (.int .u8))) := hd
  have HB2 : Hid (Below w.heap.size w w2) := hB2
  have HBZ : Hid (w2.heap[w.heap.size + 1]? = _) := hbz2
  clear hdl hd hB2 hbz2 hli
  go_wp2
  obtain ⟨W, hW⟩ : ∃ W, W = put8 w2 (w.heap.size + 1) (.int .u8 U.b) (.int .u8 U.f) (.bool U.p) (.bool U.q) (.int .u8 U.k) (.int .u8 U.s) (.bool U.wd) (.slice d m kk) := ⟨_, rfl⟩
  have hx := put8_box HBZ.out (.int .u8 U.b) (.int .u8 U.f) (.bool U.p) (.bool U.q) (.int .u8 U.k) (.int .u8 U.s) (.bool U.wd) (.slice d m kk)
  rw [← hW] at hx
  have hBW : Below w.heap.size w W := by rw [hW]; exact put8_below HB2.out (Nat.le_succ _) _ _ _ _ _ _ _ _
  have hRW : Reads W d (U.info.map (.int .u8)) := by rw [hW]; exact reads_put8 HRD.out HDL.out _ _ _ _ _ _ _ _
  unfold put8 at hW
  rw [← hW]
  have hBL : Below W.heap.size W (W.alloc (.cells #[.int .u8 U.b, .int .u8 U.f, .bool U.p, .bool U.q, .int .u8 U.k, .int .u8 U.s, .bool U.wd, .slice d m kk] 24)) := (Below.refl _ _).alloc (Nat.le_refl _) _
  obtain ⟨⟨a0, a1, a2, a3, a4, a5, a6, a7⟩, -⟩ := unit_cells (block_keep hx hBL (Nat.le_refl _))
  refine bodyPost_ret (v := .agg #[.int .u8 U.b, .int .u8 U.f, .bool U.p, .bool U.q, .int .u8 U.k, .int .u8 U.s, .bool U.wd, .slice d m kk]) (by simp [results, Try.results16, go_sem, a0, a1, a2, a3, a4, a5, a6, a7]) rfl ⟨d, m, kk, rfl, hm, hRW.below (Nat.le_refl _) hBL, hBW.trans (hBL.mono hBW.size)⟩
end Go.Proofs.Ythkbfbjlkjfkiaa.Tape
