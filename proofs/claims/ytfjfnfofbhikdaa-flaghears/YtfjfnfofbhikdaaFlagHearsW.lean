/- The walk of the law FlagHears: it returns true and writes nothing that was there. -/
import Derived.Test.YtfjfnfofbhikdaaStream2
namespace Go.Proofs.Ytfjfnfofbhikdaa.Tape
open Go.ChangeShapes Go.WideShapes Go.ChangeAt Go.RowKit

theorem eats_len (s : Ear) (l : List Bool) : (eats s l).length ≤ l.length := by
  induction l generalizing s with
  | nil => simp [eats]
  | cons b l ih =>
    have := ih (eat s b).1
    simp only [eats, List.length_append, List.length_cons]
    cases (eat s b).2 <;> simp <;> omega
theorem told_eats {hs hs' : List HV} {bs : List Bool} (h : hs.map HV.said = eats ear0 bs) (h' : hs'.map HV.told = eatsAt ear0 0 bs) : hs.map HV.said = hs'.map HV.said := by
  rw [h, ← told_said, h', eatsAt_fst]

set_option maxRecDepth 100000 in
set_option maxHeartbeats 2000000 in
theorem hears_walk (lo jo ho : Option Addr) (L lc J jc H hc : Nat) (ls : List RV) (js hs : List Int) (w : World) (hn : ls.length = L) (hL : L ≤ maxLen) (hls : Lots w lo ls) (hJ : js.length = J) (hJm : J ≤ maxLen) (hjr : ∀ x ∈ js, 0 ≤ x ∧ x ≤ 255) (hjs : Reads w jo (js.map (.int .u8)))
    (hH : hs.length = H) (hHm : H ≤ maxLen) (hhr : ∀ x ∈ hs, 0 ≤ x ∧ x ≤ 255) (hhs : Reads w ho (hs.map (.int .u8))) :
    Calls Try.prog 5 #[.slice lo L lc, .slice jo J jc, .slice ho H hc] w fun e w' => e = .returned (.bool true) ∧ Below w.heap.size w w' := by
  have HN : Hid (ls.length = L) := hn
  have hJ' : J ≤ 9223372036854775807 := hJm
  go_enter Try.func5, Try.ntmps5
  go_wp2_with fail
  refine (awake5_any _).mono ?_
  rintro e w1 ⟨rfl, hb1⟩
  have hls1 := hls.below hb1
  have hsh := short_any lo L lc ls w1 HN.out hL hls1
  cases hf : few ls L
  · rw [hf] at hsh
    go_wp2_with fail
    refine hsh.mono ?_
    rintro e w2 ⟨rfl, hw2⟩
    obtain rfl := hw2.symm
    clear hw2 hsh
    go_wp2_with fail
    refine (awake5_any _).mono ?_
    rintro e w3 ⟨rfl, hb3⟩
    go_wp2
    go_ret
    exact ⟨rfl, hb1.trans (hb3.mono hb1.size)⟩
  · rw [hf] at hsh
    obtain ⟨h60, hL12⟩ := few_yes hf
    have H60 : Hid (∀ r ∈ ls, r.n ≤ 60) := h60
    clear hf h60
    by_cases hJ2 : 200 < J
    · go_wp2_with fail
      refine hsh.mono ?_
      rintro e w2 ⟨rfl, hw2⟩
      obtain rfl := hw2.symm
      clear hw2 hsh
      go_wp2_with fail
      refine (awake5_any _).mono ?_
      rintro e w3 ⟨rfl, hb3⟩
      go_wp2
      go_ret
      exact ⟨rfl, hb1.trans (hb3.mono hb1.size)⟩
    · go_wp2_with fail
      refine hsh.mono ?_
      rintro e w2 ⟨rfl, hw2⟩
      obtain rfl := hw2.symm
      clear hw2 hsh
      have hst := stream_any lo jo ho L lc J jc H hc ls js hs w1 HN.out hL12 hls1 H60.out hJ (by omega) hjr (hjs.below (Nat.le_refl _) hb1) hH hHm hhr (hhs.below (Nat.le_refl _) hb1)
      clear hls hls1 hjs hhs hjr hhr hJ hH hn hL
      go_wp2_with fail
      refine hst.mono ?_
      rintro e w2 ⟨v2, bs, rfl, hbl, -, hown2, hb2⟩
      have hB2 := hb1.trans (hb2.mono hb1.size)
      obtain ⟨M, hM⟩ : ∃ M, bs.length = M := ⟨_, rfl⟩
      have HM : Hid (bs.length = M) := hM
      rw [hM] at hown2 hbl
      obtain ⟨vo2, ca2, rfl, hca2, hrd2, -⟩ := owns_form2 hown2
      have hli2 := owns_lies hown2
      have hear := ear_new (w := w2) (B := w.heap.size) hB2.size
      have hBe := below_alloc w2 (.cells #[.bool false, .slice none 0 0, .int .i64 0, .int .i64 0] 48)
      have hrd3 := hrd2.below (Nat.le_refl _) hBe
      have haw : Away (w2.alloc (.cells #[.bool false, .slice none 0 0, .int .i64 0, .int .i64 0] 48)) w2.heap.size (.slice none 0 0) vo2 := fun x hx => ⟨by have := (hli2 x hx).2; simp; omega, by have := (hli2 x hx).2; omega, by simp [Value.ownBlock]⟩
      have hB3 := hB2.trans (hBe.mono hB2.size)
      have hsz2 := hB2.size
      have hbi := ebits_any w.heap.size w2.heap.size M ca2 (.slice none 0 0) ear0 vo2 bs _ HM.out (by omega) hrd3 haw hear
      have HRD : Hid (Reads (w2.alloc (.cells #[.bool false, .slice none 0 0, .int .i64 0, .int .i64 0] 48)) vo2 (bs.map .bool)) := hrd3
      have HAW : Hid (Away (w2.alloc (.cells #[.bool false, .slice none 0 0, .int .i64 0, .int .i64 0] 48)) w2.heap.size (.slice none 0 0) vo2) := haw
      have HB3 : Hid (Below w.heap.size w (w2.alloc (.cells #[.bool false, .slice none 0 0, .int .i64 0, .int .i64 0] 48))) := hB3
      clear hst hM hown2 hrd2 hli2 hear hBe hrd3 haw hB3 hB2 hb1 hb2
      go_wp2_with fail
      refine hbi.mono ?_
      rintro e w4 ⟨u4, hs4, v4, rfl, hsd4, hrow4, -, hear4, hfr4, -⟩
      have hB4 := HB3.out.trans (hfr4.below hsz2 (by simp [Value.ownBlock]) HB3.out.size)
      have hrd4 := HAW.out.reads hfr4 HRD.out
      have HSD : Hid (hs4.map HV.said = eats ear0 bs) := hsd4
      have HROW4 : Hid (HRow 57 2 HV.two (w2.alloc (.cells #[.bool false, .slice none 0 0, .int .i64 0, .int .i64 0] 48)).heap.size u4 hs4 w4) := hrow4
      have hhl : hs4.length ≤ 1000000 := by
        have h1 := congrArg List.length hsd4
        have h2 := eats_len ear0 bs
        rw [List.length_map] at h1
        have := HM.out
        omega
      clear hbi HRD HAW HB3 hsd4 hrow4 hfr4
      go_wp2_with fail
      refine (hear_any vo2 M ca2 bs w4 HM.out (by omega) hca2 hrd4).mono ?_
      rintro e w5 ⟨u5, hs5, rfl, htd5, hrow5, hb5⟩
      have hB5 := hB4.trans (hb5.mono hB4.size)
      have hear5 := hear4.below hb5
      have hhe := heard_true _ _ u4 u5 hs4 hs5 w5 (HROW4.out.below hb5) hrow5 (told_eats HSD.out htd5) hhl
      obtain ⟨lst, hlst⟩ : ∃ lst, (after ear0 bs).lost = lst := ⟨_, rfl⟩
      have HLS : Hid ((after ear0 bs).lost = lst) := hlst
      rw [hlst]
      clear hlst htd5 hrow5 hear4 hrd4 hB4 HROW4 HSD
      go_wp2_with fail
      refine hhe.mono ?_
      rintro e w6 ⟨rfl, q, rfl⟩
      have hear6 := hear5.below (below_drewN (Below.refl _ _) q)
      have hco := counting_any _ _ _ _ _ hear6
      rw [HLS.out] at hco
      clear hhe hear5 hear6 hb5
      go_wp2_with fail
      refine hco.mono ?_
      rintro e w7 ⟨rfl, hw7⟩
      obtain rfl := hw7.symm
      clear hw7 hco
      go_wp2
      go_ret
      exact ⟨ret_bool (by simp), below_drewN hB5 q⟩
end Go.Proofs.Ytfjfnfofbhikdaa.Tape
