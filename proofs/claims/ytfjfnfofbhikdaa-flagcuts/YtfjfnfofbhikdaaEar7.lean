/- What an ear hears of frames, flags and noughts: plain facts; the flag laws' own example (awake). -/
import Derived.Test.YtfjfnfofbhikdaaEar6
namespace Go.Proofs.Ytfjfnfofbhikdaa.Tape
open Go.ChangeShapes Go.WideShapes Go.ChangeAt Go.RowKit

theorem eat_run (s : Ear) (b : Bool) : (eat s b).1.run = nx s.run b := by
  unfold eat
  by_cases hf : b = false ∧ s.run = 6
  · have : nx s.run b = 0 := by rw [hf.1]; rfl
    simp only [if_pos hf, this]
    split <;> rfl
  · simp only [if_neg hf]
    split
    · split <;> rfl
    · split <;> rfl

theorem keep_run {ks : List Bool} {c r : Nat} {b : Bool} (h : ¬ (b = false ∧ r = 6)) (h7 : b = true → r < 6) (hl : ks.length + 1 ≤ 2687) : eat ⟨false, ks, c, r⟩ b = (⟨false, ks ++ [b], c, nx r b⟩, none) := by
  refine eat_keep rfl h ?_
  rintro (h | ⟨_, h⟩)
  · cases b
    · simp [nx] at h
    · have := h7 rfl; simp [nx] at h; omega
  · simp only at h; omega

theorem feed_put : ∀ (l : List Bool) (r : Nat) (ks : List Bool) (c : Nat), r < 5 → ks.length + (putFrom l r).length ≤ 2687 →
    ∃ r', r' ≤ 5 ∧ after ⟨false, ks, c, r⟩ (putFrom l r) = ⟨false, ks ++ putFrom l r, c, r'⟩ ∧ eats ⟨false, ks, c, r⟩ (putFrom l r) = []
  | [], r, ks, c, hr, _ => ⟨r, by omega, by simp [putFrom, after], by simp [putFrom, eats]⟩
  | true :: l, r, ks, c, hr, hl => by
    by_cases h4 : r = 4
    · subst h4
      simp only [putFrom, if_true, List.length_cons] at hl ⊢
      obtain ⟨r', h1, h2, h3⟩ := feed_put l 0 (ks ++ [true] ++ [false]) c (by omega) (by simp; omega)
      have e1 : eat ⟨false, ks, c, 4⟩ true = (⟨false, ks ++ [true], c, 5⟩, none) := keep_run (by simp) (by simp) (by omega)
      have e2 : eat ⟨false, ks ++ [true], c, 5⟩ false = (⟨false, ks ++ [true] ++ [false], c, 0⟩, none) := keep_run (by simp) (by simp) (by simp; omega)
      refine ⟨r', h1, ?_, ?_⟩
      · simp only [after, e1, e2, h2]; simp
      · simp only [eats, e1, e2, h3]; simp
    · simp only [putFrom, if_neg h4, List.length_cons] at hl ⊢
      obtain ⟨r', h1, h2, h3⟩ := feed_put l (r + 1) (ks ++ [true]) c (by omega) (by simp; omega)
      have e1 : eat ⟨false, ks, c, r⟩ true = (⟨false, ks ++ [true], c, r + 1⟩, none) := by
        rw [keep_run (by simp) (fun _ => by omega) (by omega)]
        simp [nx]; omega
      refine ⟨r', h1, ?_, ?_⟩
      · simp only [after, e1, h2]; simp
      · simp only [eats, e1, h3]; simp
  | false :: l, r, ks, c, hr, hl => by
    simp only [putFrom, List.length_cons] at hl ⊢
    obtain ⟨r', h1, h2, h3⟩ := feed_put l 0 (ks ++ [false]) c (by omega) (by simp; omega)
    have e1 : eat ⟨false, ks, c, r⟩ false = (⟨false, ks ++ [false], c, 0⟩, none) := keep_run (by simp; omega) (by simp) (by omega)
    refine ⟨r', h1, ?_, ?_⟩
    · simp only [after, e1, h2]; simp
    · simp only [eats, e1, h3]; simp

theorem feed_flg (ks : List Bool) (c r : Nat) (hr : r ≤ 5) (hl : ks.length + 8 ≤ 2687) : after ⟨false, ks, c, r⟩ flg = ⟨false, [], c, 0⟩ ∧ eats ⟨false, ks, c, r⟩ flg = (hd (ks ++ flg)).toList := by
  have e0 : eat ⟨false, ks, c, r⟩ false = (⟨false, ks ++ [false], c, 0⟩, none) := keep_run (by simp; omega) (by simp) (by omega)
  have e1 : eat ⟨false, ks ++ [false], c, 0⟩ true = (⟨false, ks ++ [false] ++ [true], c, 1⟩, none) := keep_run (by simp) (by simp) (by simp; omega)
  have e2 : eat ⟨false, ks ++ [false] ++ [true], c, 1⟩ true = (⟨false, ks ++ [false] ++ [true] ++ [true], c, 2⟩, none) := keep_run (by simp) (by simp) (by simp; omega)
  have e3 : eat ⟨false, ks ++ [false] ++ [true] ++ [true], c, 2⟩ true = (⟨false, ks ++ [false] ++ [true] ++ [true] ++ [true], c, 3⟩, none) := keep_run (by simp) (by simp) (by simp; omega)
  have e4 : eat ⟨false, ks ++ [false] ++ [true] ++ [true] ++ [true], c, 3⟩ true = (⟨false, ks ++ [false] ++ [true] ++ [true] ++ [true] ++ [true], c, 4⟩, none) := keep_run (by simp) (by simp) (by simp; omega)
  have e5 : eat ⟨false, ks ++ [false] ++ [true] ++ [true] ++ [true] ++ [true], c, 4⟩ true = (⟨false, ks ++ [false] ++ [true] ++ [true] ++ [true] ++ [true] ++ [true], c, 5⟩, none) := keep_run (by simp) (by simp) (by simp; omega)
  have e6 : eat ⟨false, ks ++ [false] ++ [true] ++ [true] ++ [true] ++ [true] ++ [true], c, 5⟩ true = (⟨false, ks ++ [false] ++ [true] ++ [true] ++ [true] ++ [true] ++ [true] ++ [true], c, 6⟩, none) := keep_run (by simp) (by simp) (by simp; omega)
  have e7 := eat_end (s := ⟨false, ks ++ [false] ++ [true] ++ [true] ++ [true] ++ [true] ++ [true] ++ [true], c, 6⟩) (b := false) rfl ⟨rfl, rfl⟩
  constructor
  · simp only [flg, after, e0, e1, e2, e3, e4, e5, e6, e7]
  · simp only [flg, eats, e0, e1, e2, e3, e4, e5, e6, e7]; simp

theorem hd_flg (ks : List Bool) (h : 0 < ks.length) : hd (ks ++ flg) = if (jdg ks).2 = 0 then some (0, (jdg ks).1) else some (1, []) := by
  refine hd_some (n := ks.length + 8) (by simp [flg]) (by omega) ?_
  rw [show ks.length + 8 - 8 = ks.length by omega, List.take_left]

/-- A frame that isn't damaged is heard. -/
theorem feed_frm (xs : List Int) (c : Nat) (hx : ∀ x ∈ xs, 0 ≤ x ∧ x ≤ 255) (h3 : 3 ≤ xs.length) (h277 : xs.length ≤ 277) : after ⟨false, [], c, 0⟩ (frm xs) = ⟨false, [], c, 0⟩ ∧ eats ⟨false, [], c, 0⟩ (frm xs) = [(0, xs)] := by
  have hfl := frm_len xs
  have hfl2 : (frm xs).length = (putFrom (bits (xs ++ chk xs)) 0).length + 8 := by rw [frm, List.length_append]; rfl
  obtain ⟨r', h1, h2, h4⟩ := feed_put (bits (xs ++ chk xs)) 0 [] c (by omega) (by simp; omega)
  obtain ⟨k1, k2⟩ := feed_flg (putFrom (bits (xs ++ chk xs)) 0) c r' h1 (by omega)
  have hj := jdg_put xs hx h3 h277
  have hh := hd_flg (putFrom (bits (xs ++ chk xs)) 0) (by omega)
  rw [show jdg (putFrom (bits (xs ++ chk xs)) 0) = (xs, 0) from hj] at hh
  rw [List.nil_append] at h2
  constructor
  · rw [frm, after_append, show put (bits (xs ++ chk xs)) = putFrom (bits (xs ++ chk xs)) 0 from rfl, h2, k1]
  · rw [frm, eats_append, show put (bits (xs ++ chk xs)) = putFrom (bits (xs ++ chk xs)) 0 from rfl, h2, h4, k2, hh]
    rfl

/-- Behind a flag an ear is found, and has kept nothing, whatever came ahead. -/
theorem after_flg (s : Ear) (hf : Fine s) : ∃ c, after s flg = ⟨false, [], c, 0⟩ := by
  have hF := hf.after [false, true, true, true, true, true, true]
  have hR : (after s [false, true, true, true, true, true, true]).run = 6 := by simp only [after, eat_run]; rfl
  have e : after s flg = (eat (after s [false, true, true, true, true, true, true]) false).1 := rfl
  rw [e]
  generalize after s [false, true, true, true, true, true, true] = t at hF hR
  cases hl : t.lost
  · rw [eat_end hl ⟨rfl, hR⟩]; exact ⟨_, rfl⟩
  · rw [eat_flag hl ⟨rfl, hR⟩, hF.lost hl]; exact ⟨_, rfl⟩

theorem ear0_flg : ∃ c, after ear0 flg = ⟨false, [], c, 0⟩ := after_flg ear0 fine0
theorem eats0_flg : eats ear0 flg = [] := by decide +kernel

theorem noughts_keep : ∀ (m : Nat) (ks : List Bool) (c : Nat), ks.length + m ≤ 2687 → after ⟨false, ks, c, 0⟩ (List.replicate m false) = ⟨false, ks ++ List.replicate m false, c, 0⟩
  | 0, ks, c, _ => by simp [after]
  | m + 1, ks, c, h => by
    have e1 : eat ⟨false, ks, c, 0⟩ false = (⟨false, ks ++ [false], c, 0⟩, none) := keep_run (by simp) (by simp) (by omega)
    simp only [List.replicate_succ, after, e1]
    rw [noughts_keep m (ks ++ [false]) c (by simp; omega)]
    simp
theorem noughts_lost : ∀ (m : Nat) (s : Ear), s.lost = true → s.run = 0 → (after s (List.replicate m false)).lost = true
  | 0, s, h, _ => by simpa [after] using h
  | m + 1, s, h, hr => by
    simp only [List.replicate_succ, after]
    refine noughts_lost m _ ?_ ?_
    · by_cases hc : s.cnt + 1 < 128
      · rw [eat_cnt h (by simp [hr]) hc]
      · rw [eat_block h (by simp [hr]) hc]
    · rw [eat_run]; rfl
theorem noughts_all (m c : Nat) : (after ⟨false, [], c, 0⟩ (List.replicate m false)).lost = decide (2687 < m) := by
  by_cases h : m ≤ 2687
  · rw [noughts_keep m [] c (by simpa using h)]
    simp; omega
  · obtain ⟨j, rfl⟩ : ∃ j, m = 2687 + (j + 1) := ⟨m - 2688, by omega⟩
    rw [← List.replicate_append_replicate, after_append, noughts_keep 2687 [] c (by simp), List.replicate_succ (n := j), after]
    rw [decide_eq_true (by omega)]
    have e := eat_lose (s := ⟨false, [] ++ List.replicate 2687 false, c, 0⟩) (b := false) rfl (by simp) (.inr ⟨rfl, by rw [List.nil_append, List.length_replicate]; omega⟩)
    rw [e]
    exact noughts_lost j _ rfl rfl

theorem ear_new {w : World} {B : Nat} (h : B ≤ w.heap.size) : EarAt (w.alloc (.cells #[.bool false, .slice none 0 0, .int .i64 0, .int .i64 0] 48)) B w.heap.size (.slice none 0 0) ear0 :=
  ⟨h, heap_alloc_new w _, World.ownsRow_nil _ _ _ _, by simp [Value.ownBlock], fine0⟩

theorem two_at : ∀ (hs : List HV) (i : Nat) (h : i < hs.length), (hs.flatMap HV.two)[2 * i]? = some (.int .u8 hs[i].kind) ∧ (hs.flatMap HV.two)[2 * i + 1]? = some (.slice hs[i].ao hs[i].n hs[i].cap)
  | [], i, h => by simp at h
  | x :: hs, 0, _ => by simp [HV.two]
  | x :: hs, i + 1, h => by
    have := two_at hs i (by simpa using h)
    rw [show 2 * (i + 1) = 2 * i + 1 + 1 by omega]
    simpa [HV.two] using this
/-- What stands in a row of what is heard. -/
theorem HRow.at2 {B : Nat} {u : Value} {hs : List HV} {w : World} (h : HRow 57 2 HV.two B u hs w) : ∃ uo cap, u = .slice uo hs.length cap ∧ hs.length ≤ cap ∧ (uo = none → cap = 0) ∧ ∀ i (hi : i < hs.length), ∃ g, uo = some ⟨g, 0, none⟩ ∧ w.cell? ⟨g, 2 * i, none⟩ = some (.int .u8 hs[i].kind) ∧ w.cell? ⟨g, 2 * i + 1, none⟩ = some (.slice hs[i].ao hs[i].n hs[i].cap) := by
  rcases h.row.2 with ⟨hv, h0⟩ | ⟨g, cap, cur, hv, _, hg, hc, _⟩
  · exact ⟨none, 0, by rw [hv, h0], by omega, fun _ => rfl, fun i hi => by omega⟩
  · refine ⟨_, cap, hv, hc, (fun h => by cases h), fun i hi => ⟨g, rfl, ?_, ?_⟩⟩
    · have := h.row.cells (g := g) (by rw [hv]; rfl) _ _ (two_at hs i hi).1
      rwa [Addr.add_lit, Nat.zero_add] at this
    · have := h.row.cells (g := g) (by rw [hv]; rfl) _ _ (two_at hs i hi).2
      rwa [Addr.add_lit, Nat.zero_add] at this
theorem said_one {hs : List HV} {k : Nat} {ys : List Int} (h : hs.map HV.said = [(k, ys)]) : ∃ x, hs = [x] ∧ x.kind = k ∧ x.octs = ys := by
  match hs, h with
  | [x], h => simp [HV.said] at h; exact ⟨x, rfl, h.1, h.2⟩

theorem eats_awake : eats ear0 (flg ++ frm [1, 2, 0]) = [(0, [1, 2, 0])] := by
  obtain ⟨c, hc⟩ := ear0_flg
  rw [eats_append, eats0_flg, hc, (feed_frm [1, 2, 0] c (by decide) (by decide) (by decide)).2]
  rfl

set_option maxRecDepth 100000 in
set_option maxHeartbeats 1000000 in
theorem awake5_any (w : World) : Calls Try.prog 9 #[] w fun e w' => e = .returned (.bool true) ∧ Below w.heap.size w w' := by
  have hr := reads_lit w [1, 2, 0] (0, 0)
  have hB0 : Below w.heap.size w (w.alloc (.cells ([1, 2, 0].map (Value.int .u8)).toArray 5)) := (Below.refl _ _).alloc (Nat.le_refl _) _
  have hfl := frm_len [1, 2, 0]
  obtain ⟨F, hF⟩ : ∃ F, (frm [1, 2, 0]).length = F := ⟨_, rfl⟩
  have HF : Hid ((frm [1, 2, 0]).length = F) := hF
  have hF1 : F ≤ 1000 := by rw [hF] at hfl; simp at hfl; omega
  have HFF : Hid ((flg ++ frm [1, 2, 0]).length = 8 + F) := by show _ = _; rw [List.length_append, hF]; rfl
  clear hF hfl
  go_enter Try.func9, Try.ntmps9
  go_wp2_with fail
  refine (frame_ok _ _ 3 [1, 2, 0] _ rfl (by omega) (by omega) (by decide) (fun h => by cases h) hr).mono ?_
  rintro e w1 ⟨v1, rfl, hown1, hb1⟩
  have hB1 := hB0.trans (hb1.mono hB0.size)
  rw [HF.out] at hown1
  obtain ⟨vo1, ca1, rfl, -, hr1, hv1⟩ := owns_form hown1
  clear hB0 hr hown1
  have hear := ear_new (w := w1) (B := w.heap.size) hB1.size
  have hBe := below_alloc w1 (.cells #[.bool false, .slice none 0 0, .int .i64 0, .int .i64 0] 48)
  have hr1e := hr1.below (Nat.le_refl _) hBe
  go_wp2_with fail
  refine (flag_any _).mono ?_
  rintro e w2 ⟨v2, rfl, hown2, hb2⟩
  have hr2 := hr1e.below (Nat.le_refl _) hb2
  have hear2 := hear.below hb2
  have hBe2 := hBe.trans (hb2.mono (by simp))
  have hsz2 : w1.heap.size + 1 ≤ w2.heap.size := by have := hb2.size; simpa using this
  have hse : (w1.alloc (.cells #[.bool false, .slice none 0 0, .int .i64 0, .int .i64 0] 48)).heap.size = w1.heap.size + 1 := by simp
  rw [hse] at hown2
  clear hse
  clear hr1 hr1e hear hb2 hBe hb1
  go_wp2_with (at_builtin; refine append_bits rfl 27 Try.underlying27 _ _ rfl (w1.heap.size + 1) _ _ _ rfl hown2 vo1 F ca1 (frm [1, 2, 0]) rfl HF.out hr2 (by rintro rfl; rcases hv1 with ⟨_, _, h⟩ | ⟨g, hg⟩ <;> simp_all) (by omega) hsz2 ?_; intro v3 w3 hown3 hb3 _)
  have hB3 : Below (w1.alloc (.cells #[.bool false, .slice none 0 0, .int .i64 0, .int .i64 0] 48)).heap.size w2 w3 := by simpa using hb3
  have hear3 := hear2.far' (hB3.block _ (by simp)) (fun g hg => by simp [Value.ownBlock] at hg)
  have hown3' : w3.ownsRow (w1.heap.size + 1) 4 1 v3 (8 + F) ((flg ++ frm [1, 2, 0]).map .bool) := by rw [List.map_append]; exact hown3
  obtain ⟨vo3, ca3, rfl, -, hr3, -⟩ := owns_form hown3'
  have hli3 := owns_lies hown3'
  have haw3 : Away w3 w1.heap.size (.slice none 0 0) vo3 := fun x hx => ⟨(hli3 x hx).2, by have := (hli3 x hx).1; omega, by simp [Value.ownBlock]⟩
  have hB : Below w.heap.size w w3 := hB1.trans ((hBe2.mono hB1.size).trans (hb3.mono (by have := hB1.size; omega)))
  have HB : Hid (Below w.heap.size w w3) := hB
  have hw13 := hB1.size
  have hsz3 := hB.size
  have hbi := ebits_any w.heap.size w1.heap.size (8 + F) ca3 (.slice none 0 0) ear0 vo3 (flg ++ frm [1, 2, 0]) w3 HFF.out (by omega) hr3 haw3 hear3
  rw [eats_awake] at hbi
  clear hown3 hown3' hown2 hr2 hr3 hear2 hear3 haw3 hli3 hb3 hB3 hB hBe2 hB1 hv1
  go_wp2_with fail
  refine hbi.mono ?_
  rintro e w4 ⟨u, hs, v', rfl, hsd, hrow, -, -, hfr, -⟩
  obtain ⟨x, rfl, hxk, hxo⟩ := said_one hsd
  have hB4 : Below w.heap.size w w4 := HB.out.trans (hfr.below hw13 (by simp [Value.ownBlock]) hsz3)
  obtain ⟨uo, cap, rfl, -, -, hat⟩ := hrow.at2
  obtain ⟨g, rfl, hc0, hc1⟩ := hat 0 (by simp)
  obtain ⟨⟨hxl, hxc, hxr, hxn⟩, -, -⟩ := hrow.each x (by simp)
  have hconv := conv_reads (cap := x.cap) hxl hxr
  simp only [List.getElem_cons_zero, Nat.mul_zero, Nat.zero_add] at hc0 hc1
  rw [hxo] at hconv
  rw [hxk] at hc0
  generalize x.ao = xo at hc1 hconv
  generalize x.n = xn at hc1 hconv
  generalize x.cap = xc at hc1 hconv
  have hst : ((str [1, 2, 0]).toList == [1, 2, 0]) = true := by decide +kernel
  clear hrow hsd hxl hxc hxr hxn hat hbi HB hfr
  go_wp2
  go_ret
  exact ⟨rfl, hB4⟩
end Go.Proofs.Ytfjfnfofbhikdaa.Tape
