/- The contract of the flag laws' own stream: some bits, whatever they are. -/
import Derived.Test.YtfjfnfofbhikdaaStream1
namespace Go.Proofs.Ytfjfnfofbhikdaa.Tape
open Go.ChangeShapes Go.WideShapes Go.ChangeAt Go.RowKit

theorem owns_set {w : World} {base : Nat} {e : TypeId} {g n cap : Nat} {vs : List Value} (h : w.ownsRow base e 1 (.slice (some ⟨g, 0, none⟩) n cap) n vs) (k : Nat) (v : Value) :
    (w.setCell ⟨g, k, none⟩ v).ownsRow base e 1 (.slice (some ⟨g, 0, none⟩) n cap) n (vs.set k v) := by
  rcases h.2 with ⟨h0, _⟩ | ⟨g', cap', cur, hv, hB, hg, h1, h2, h3, h4⟩
  · cases h0
  · simp only [Value.slice.injEq, Option.some.injEq, Addr.mk.injEq, and_true, true_and] at hv
    obtain ⟨rfl, rfl⟩ := hv
    have hs := row_set (cs := cur.toList) (by simpa using hg) k v
    refine ⟨by simpa using h.1, .inr ⟨g, cap, (cur.toList.set k v).toArray, rfl, hB, hs, h1, h2, by simpa using h3, ?_⟩⟩
    rw [← h4]
    simp [List.take_set]

theorem owns_cell {w : World} {base : Nat} {e : TypeId} {g n cap : Nat} {vs : List Value} (h : w.ownsRow base e 1 (.slice (some ⟨g, 0, none⟩) n cap) n vs) (k : Nat) (hk : k < vs.length) :
    w.cell? ⟨g, k, none⟩ = some vs[k] ∧ w.frozen? ⟨g, k, none⟩ = false ∧ base ≤ g := by
  rcases h.2 with ⟨h0, _⟩ | ⟨g', cap', cur, hv, hB, hg, h1, h2, h3, h4⟩
  · cases h0
  · simp only [Value.slice.injEq, Option.some.injEq, Addr.mk.injEq, and_true, true_and] at hv
    obtain ⟨rfl, rfl⟩ := hv
    have hc := h.cells rfl k vs[k] (by simp [hk])
    rw [Addr.add_lit] at hc
    refine ⟨by simpa using hc, ?_, hB⟩
    have hg' : w.heap[g]? = some (.cells cur.toList.toArray e (0, 0)) := by simpa using hg
    exact Lib.frozen_of_heap hg' k

theorem rem_in (n : Nat) (c : Int) (h : 0 < n) : ∃ H : Nat, c % (n : Int) = H ∧ H < n := by
  have h1 := Int.emod_lt_of_pos c (show (0 : Int) < n by omega)
  have h2 := Int.emod_nonneg c (show (n : Int) ≠ 0 by omega)
  exact ⟨(c % n).toNat, by omega, by omega⟩

theorem owns_form2 {w : World} {base : Nat} {e : TypeId} {v : Value} {n : Nat} {vs : List Value} (h : w.ownsRow base e 1 v n vs) :
    ∃ ao cap, v = .slice ao n cap ∧ n ≤ cap ∧ Reads w ao vs ∧ (ao = none → cap = 0) := by
  obtain ⟨ao, cap, h1, h2, h3, h4⟩ := owns_form h
  refine ⟨ao, cap, h1, h2, h3, fun e => ?_⟩
  rcases h4 with ⟨_, _, h⟩ | ⟨g, hg⟩
  · exact h
  · rw [hg] at e; cases e

set_option maxRecDepth 100000 in
set_option maxHeartbeats 4000000 in
theorem stream_any (lo jo ho : Option Addr) (L lc J jc H hc : Nat) (ls : List RV) (js hs : List Int) (w : World) (hn : ls.length = L) (hL : L ≤ 12) (hls : Lots w lo ls) (h60 : ∀ r ∈ ls, r.n ≤ 60) (hJ : js.length = J) (hJ2 : J ≤ 200) (hjr : ∀ x ∈ js, 0 ≤ x ∧ x ≤ 255) (hjs : Reads w jo (js.map (.int .u8)))
    (hH : hs.length = H) (hHm : H ≤ maxLen) (hhr : ∀ x ∈ hs, 0 ≤ x ∧ x ≤ 255) (hhs : Reads w ho (hs.map (.int .u8))) :
    Calls Try.prog 22 #[.slice lo L lc, .slice jo J jc, .slice ho H hc] w fun e w' => ∃ (v : Value) (bs : List Bool), e = .returned v ∧ bs.length ≤ 100000 ∧ 8 ≤ bs.length ∧ w'.ownsRow w.heap.size 4 1 v bs.length (bs.map .bool) ∧ Below w.heap.size w w' := by
  obtain ⟨i0, hi, hz0, hz1, hz2⟩ := info_parts info4
  have HN : Hid (ls.length = L) := hn
  have HJ : Hid (js.length = J) := hJ
  have HH : Hid (hs.length = H) := hH
  have hHm' : H ≤ 9223372036854775807 := hHm
  clear hn hJ hH hHm
  go_enter Try.func22, Try.ntmps22
  go_wp2_with fail
  refine (rflag_any _).mono ?_
  rintro e w1 ⟨v1, rfl, hown1, hb1⟩
  go_wp2
  go_loopw [7, 8] (fun t i wr => ∃ (k : Nat) (bs : List Bool), k ≤ L ∧ i = .int .i64 k ∧ bs.length ≤ 8 + k * 5000 ∧ 8 ≤ bs.length ∧ wr.ownsRow w.heap.size 4 1 t bs.length (bs.map .bool) ∧ Below w.heap.size w wr) (fun _ i _ => L - (intOf i).toNat)
  case atStart => exact ⟨0, flg, by omega, rfl, by simp [flg], by simp [flg], hown1, hb1⟩
  case round =>
    clear hown1 hb1
    obtain ⟨k, bs, hk, rfl, hbl, hbl8, hown, hB⟩ := hrel
    obtain ⟨K, hK⟩ : ∃ K, bs.length = K := ⟨_, rfl⟩
    have HK : Hid (bs.length = K) := hK
    rw [hK] at hown hbl hbl8
    clear hK
    by_cases hlt : k < L
    · have hkl : k < ls.length := by have := HN.out; omega
      have hget : ls[k]? = some ls[k] := List.getElem?_eq_getElem hkl
      have hn60 := h60 ls[k] (List.getElem_mem hkl)
      obtain ⟨g, off, rfl, hcl, hok⟩ := hls.below hB k _ hget
      obtain ⟨⟨xo, xn, xc, xs⟩, hx⟩ : ∃ x, x = ls[k] := ⟨_, rfl⟩
      rw [← hx] at hcl hn60 hok
      obtain ⟨hxl, hxc, -, hxr, hxn, hxx⟩ := hok
      simp only at hcl hn60 hxl hxc hxr hxn hxx
      have HXL : Hid (xs.length = xn) := hxl
      have hfl := frm_len xs
      obtain ⟨Z, hZ⟩ : ∃ Z, (frm xs).length = Z := ⟨_, rfl⟩
      have HZ : Hid ((frm xs).length = Z) := hZ
      have hrf := rframe_any xo xc xn xs wr HXL.out (by omega) hxx hxn hxr
      rw [hZ] at hrf hfl
      rw [hxl] at hfl
      have hZ1 : Z ≤ 1000 := by omega
      have hZ0 : 24 ≤ Z := by omega
      have hszB := hB.size
      clear hx hget hfl hZ hxl hxr
      have hjs1 := hjs.below (Nat.le_refl _) hB
      by_cases hkH : k < H
      · have hkh : k < hs.length := by have := HH.out; omega
        obtain ⟨gh, oh, rfl, hch⟩ := (hhs.below (Nat.le_refl _) hB).byte k hkh
        have hhx := hhr hs[k] (List.getElem_mem hkh)
        obtain ⟨y, hy⟩ : ∃ y, y = hs[k] := ⟨_, rfl⟩
        rw [← hy] at hch hhx
        have y0 : 0 ≤ y := hhx.1
        have y1 : y ≤ 255 := hhx.2
        clear hy hhx hkh
        obtain ⟨q, hq, hqZ⟩ := rem_in Z y (by omega)
        have h6 : y % 6 = 0 ∨ y % 6 = 1 ∨ y % 6 = 2 ∨ y % 6 = 3 ∨ y % 6 = 4 ∨ y % 6 = 5 := by omega
        go_wp2_with fail
        refine hrf.mono ?_
        rintro e w2 ⟨vf, rfl, hownf, hb2⟩
        obtain ⟨fo, fc, rfl, hfc, hrdf, hvf⟩ := owns_form hownf
        have hnilf : fo = none → fc = 0 := by rintro rfl; rcases hvf with ⟨_, _, h⟩ | ⟨g, hg⟩ <;> simp_all
        obtain ⟨gf, rfl⟩ : ∃ gf, fo = some ⟨gf, 0, none⟩ := by
          rcases hvf with ⟨_, h, _⟩ | h
          · omega
          · exact h
        have hgfl := (hownf.lt gf rfl)
        have hownT := owns_below hown hb2
        have hB2 := hB.trans (hb2.mono hB.size)
        have hsz2 := hB2.size
        have hsz12 := hb2.size
        clear hrf hvf
        rcases h6 with h6 | h6 | h6 | h6 | h6 | h6
        · go_wp2_with (at_builtin; refine append_bits rfl 26 Try.underlying26 _ _ rfl w.heap.size _ _ _ rfl hownT (some ⟨gf, 0, none⟩) Z fc (frm xs) rfl HZ.out hrdf (fun h => by cases h) (by omega) hsz2 ?_; intro v9 w9 hown9 hb9 _)
          go_roundw
          case rel => exact ⟨k + 1, bs ++ (frm xs), by omega, by go_num, by rw [List.length_append, HK.out]; try rw [HZ.out]; omega, by rw [List.length_append, HK.out]; omega, by rw [List.length_append, List.map_append, HK.out, HZ.out]; exact hown9, hB2.trans hb9⟩
          case measure => simp [intOf]; omega
        · have hqb : q < (frm xs).length := by have := HZ.out; omega
          have hlq : q < ((frm xs).map Value.bool).length := by rw [List.length_map]; exact hqb
          obtain ⟨hcell, hfz, hBg⟩ := owns_cell hownf q hlq
          rw [List.getElem_map] at hcell
          obtain ⟨z, hz⟩ : ∃ z, z = (frm xs)[q] := ⟨_, rfl⟩
          rw [← hz] at hcell
          have HO : Hid ((w2.setCell ⟨gf, q, none⟩ (.bool !z)).ownsRow wr.heap.size 4 1 (.slice (some ⟨gf, 0, none⟩) Z fc) Z (((frm xs).set q !z).map .bool)) := by
            show World.ownsRow _ _ _ _ _ _ _
            rw [List.map_set]
            exact owns_set hownf q (.bool !z)
          have HS : Hid (Below wr.heap.size wr (w2.setCell ⟨gf, q, none⟩ (.bool !z))) := hb2.setCell (p := ⟨gf, q, none⟩) hBg _
          have HZ2 : Hid (((frm xs).set q !z).length = Z) := by show _ = _; rw [List.length_set]; exact HZ.out
          clear hlq hqb hz
          go_wp2_with fail
          go_region
          have hb3 : Below wr.heap.size wr (w2.setCell ⟨gf, q, none⟩ (.bool !z)).drew := HS.out.drew
          have hownT3 := owns_below hown hb3
          have hB3 := hB.trans (hb3.mono hB.size)
          have hrd3 : Reads (w2.setCell ⟨gf, q, none⟩ (.bool !z)).drew (some ⟨gf, 0, none⟩) (((frm xs).set q !z).map .bool) := (Reads.of_owns HO.out).below (Nat.le_refl _) ((Below.refl _ _).drew)
          have hsz3 := hB3.size
          go_wp2_with (at_builtin; refine append_bits rfl 26 Try.underlying26 _ _ rfl w.heap.size _ _ _ rfl hownT3 (some ⟨gf, 0, none⟩) Z fc ((frm xs).set q !z) rfl HZ2.out hrd3 (fun h => by cases h) (by omega) hsz3 ?_; intro v9 w9 hown9 hb9 _)
          go_roundw
          case rel => exact ⟨k + 1, bs ++ ((frm xs).set q !z), by omega, by go_num, by rw [List.length_append, HK.out]; try rw [HZ2.out]; omega, by rw [List.length_append, HK.out]; omega, by rw [List.length_append, List.map_append, HK.out, HZ2.out]; exact hown9, hB3.trans hb9⟩
          case measure => simp [intOf]; omega
        · go_wp2_with fail
          refine (rflag_any _).mono ?_
          rintro e w3 ⟨v3, rfl, hown3, hb3⟩
          have hownT3 := owns_below hownT hb3
          have hrd3 := hrdf.below (Nat.le_refl _) hb3
          have hB3 := hB2.trans (hb3.mono hB2.size)
          have hsz3 := hb3.size
          have hszw := hB3.size
          have HZ3 : Hid ((flg ++ frm xs).length = 8 + Z) := by show _ = _; rw [List.length_append, HZ.out]; rfl
          go_wp2_with (first
            | (at_builtin; refine append_bits rfl 26 Try.underlying26 _ _ rfl w2.heap.size _ _ _ rfl hown3 (some ⟨gf, 0, none⟩) Z fc (frm xs) rfl HZ.out hrd3 (fun h => by cases h) (by omega) hsz3 ?_; intro v4 w4 hown4 hb4 _; have hownT4 := owns_far hownT3 (fun g hg => hb4.block g (Nat.lt_of_lt_of_le (hownT.lt g hg).2 (Nat.le_refl _))); have hown4' : w4.ownsRow w2.heap.size 4 1 v4 (8 + Z) ((flg ++ frm xs).map .bool) := (by rw [List.map_append]; exact hown4); obtain ⟨fo4, fc4, rfl, _, hrd4, hnil4⟩ := owns_form2 hown4'; have hB4 := hB3.trans (hb4.mono hB2.size); have hsz4 := hB4.size; clear hown4 hown4')
            | (at_builtin; refine append_bits rfl 26 Try.underlying26 _ _ rfl w.heap.size _ _ _ rfl hownT4 fo4 (8 + Z) fc4 (flg ++ frm xs) rfl HZ3.out hrd4 hnil4 (by omega) hsz4 ?_; intro v9 w9 hown9 hb9 _))
          go_roundw
          case rel => exact ⟨k + 1, bs ++ (flg ++ frm xs), by omega, by go_num, by rw [List.length_append, HK.out]; try rw [HZ3.out]; omega, by rw [List.length_append, HK.out]; omega, by rw [List.length_append, List.map_append, HK.out, HZ3.out]; exact hown9, hB4.trans hb9⟩
          case measure => simp [intOf]; omega
        · go_wp2_with fail
          refine (rbits_n _ _ _ js _ HJ.out (by omega) hjr (hjs1.below (Nat.le_refl _) hb2)).mono ?_
          rintro e w3 ⟨v3, rfl, hown3, hb3⟩
          have hownT3 := owns_below hownT hb3
          have hrd3 := hrdf.below (Nat.le_refl _) hb3
          have hB3 := hB2.trans (hb3.mono hB2.size)
          have hsz3 := hb3.size
          have hszw := hB3.size
          have HZ3 : Hid ((bits js ++ frm xs).length = 8 * J + Z) := by show _ = _; rw [List.length_append, HZ.out, bits_len, HJ.out]
          go_wp2_with (first
            | (at_builtin; refine append_bits rfl 26 Try.underlying26 _ _ rfl w2.heap.size _ _ _ rfl hown3 (some ⟨gf, 0, none⟩) Z fc (frm xs) rfl HZ.out hrd3 (fun h => by cases h) (by omega) hsz3 ?_; intro v4 w4 hown4 hb4 _; have hownT4 := owns_far hownT3 (fun g hg => hb4.block g (Nat.lt_of_lt_of_le (hownT.lt g hg).2 (Nat.le_refl _))); have hown4' : w4.ownsRow w2.heap.size 4 1 v4 (8 * J + Z) ((bits js ++ frm xs).map .bool) := (by rw [List.map_append]; exact hown4); obtain ⟨fo4, fc4, rfl, _, hrd4, hnil4⟩ := owns_form2 hown4'; have hB4 := hB3.trans (hb4.mono hB2.size); have hsz4 := hB4.size; clear hown4 hown4')
            | (at_builtin; refine append_bits rfl 26 Try.underlying26 _ _ rfl w.heap.size _ _ _ rfl hownT4 fo4 (8 * J + Z) fc4 (bits js ++ frm xs) rfl HZ3.out hrd4 hnil4 (by omega) hsz4 ?_; intro v9 w9 hown9 hb9 _))
          go_roundw
          case rel => exact ⟨k + 1, bs ++ (bits js ++ frm xs), by omega, by go_num, by rw [List.length_append, HK.out]; try rw [HZ3.out]; omega, by rw [List.length_append, HK.out]; omega, by rw [List.length_append, List.map_append, HK.out, HZ3.out]; exact hown9, hB4.trans hb9⟩
          case measure => simp [intOf]; omega
        · obtain ⟨G, hG⟩ : ∃ G : Nat, 7 + y % 150 = (G : Int) := ⟨(7 + y % 150).toNat, by omega⟩
          have hG1 : G ≤ 160 := by omega
          go_wp2_with fail
          rw [h6]
          clear h6
          go_loopw [10, 11] (fun f c wx => ∃ (d : Nat) (fs : List Bool), d ≤ G ∧ c = .int .i64 d ∧ fs.length = Z + d ∧ wx.ownsRow wr.heap.size 4 1 f (Z + d) (fs.map .bool) ∧ Below wr.heap.size wr wx) (fun _ c _ => G - (intOf c).toNat)
          case atStart => exact ⟨0, frm xs, by omega, rfl, HZ.out, hownf, hb2⟩
          case round =>
            obtain ⟨d, fs, hd, rfl, hfs, hownx, hbx⟩ := hrel
            have HFS : Hid (fs.length = Z + d) := hfs
            have hszx := hbx.size
            clear hfs
            by_cases hdG : d < G
            · go_wp2_with (at_builtin; refine wpList_append_own _ rfl _ _ 26 rfl _ 4 i0 (.bool false) 1 1 Try.underlying26 hi hz0 hz1 hz2 rfl (by decide) _ _ _ rfl (hownx.alloc _) ⟨wr.heap.size, 0, none⟩ 1 1 [.bool true] rfl rfl (cell_one_new _ _ _) (by simp [Value.oneCell']) (by unfold maxLen; omega) (by omega) (by simp; omega) ?_; intro v8 w8 hown8 hgrow8 _; have hb8 := (hbx.alloc hszx (.cells #[.bool true] 4)).grown (show (wr.alloc (.cells #[.bool true] 4)).grownBy w8 u10.ownBlock from hgrow8) (by simp; omega) (fun k hk => (hownx.lt k hk).1))
              go_roundw
              case rel => exact ⟨d + 1, fs ++ [true], by omega, by go_num, by rw [List.length_append, HFS.out]; rfl, by rw [List.map_append]; exact hown8, hb8⟩
              case measure => simp [intOf]; omega
            · have hownTx := owns_below hown hbx
              have hBx := hB.trans (hbx.mono hB.size)
              obtain ⟨fox, fcx, rfl, _, hrdx, hnilx⟩ := owns_form2 hownx
              have hszw := hBx.size
              go_wp2_with (at_builtin; refine append_bits rfl 26 Try.underlying26 _ _ rfl w.heap.size _ _ _ rfl hownTx fox (Z + d) fcx (fs) rfl HFS.out hrdx hnilx (by omega) hszw ?_; intro v9 w9 hown9 hb9 _)
              go_roundw
              case rel => exact ⟨k + 1, bs ++ (fs), by omega, by go_num, by rw [List.length_append, HK.out]; try rw [HFS.out]; omega, by rw [List.length_append, HK.out]; omega, by rw [List.length_append, List.map_append, HK.out, HFS.out]; exact hown9, hBx.trans hb9⟩
              case measure => simp [intOf]; omega
        · obtain ⟨m, hm⟩ : ∃ m, m = Z - q := ⟨_, rfl⟩
          have em : (Z : Int) - (q : Int) = (m : Int) := by omega
          have hm1 : m ≤ Z := by omega
          have hmc : m ≤ fc := by omega
          have hrd3 := hrdf.take m
          rw [← List.map_take] at hrd3
          have HZ3 : Hid (((frm xs).take m).length = m) := by show _ = _; rw [List.length_take, HZ.out]; omega
          clear hm
          go_wp2_with (at_builtin; refine append_bits rfl 26 Try.underlying26 _ _ rfl w.heap.size _ _ _ rfl hownT (some ⟨gf, 0, none⟩) m fc ((frm xs).take m) rfl HZ3.out hrd3 (fun h => by cases h) (by omega) hsz2 ?_; intro v9 w9 hown9 hb9 _)
          go_roundw
          case rel => exact ⟨k + 1, bs ++ ((frm xs).take m), by omega, by go_num, by rw [List.length_append, HK.out]; try rw [HZ3.out]; omega, by rw [List.length_append, HK.out]; omega, by rw [List.length_append, List.map_append, HK.out, HZ3.out]; exact hown9, hB2.trans hb9⟩
          case measure => simp [intOf]; omega
      · go_wp2_with fail
        refine hrf.mono ?_
        rintro e w2 ⟨vf, rfl, hownf, hb2⟩
        obtain ⟨fo, fc, rfl, hfc, hrdf, hnilf⟩ := owns_form2 hownf
        have hownT := owns_below hown hb2
        have hB2 := hB.trans (hb2.mono hB.size)
        have hsz2 := hB2.size
        clear hrf
        go_wp2_with (at_builtin; refine append_bits rfl 26 Try.underlying26 _ _ rfl w.heap.size _ _ _ rfl hownT fo Z fc (frm xs) rfl HZ.out hrdf hnilf (by omega) hsz2 ?_; intro v9 w9 hown9 hb9 _)
        go_roundw
        case rel => exact ⟨k + 1, bs ++ (frm xs), by omega, by go_num, by rw [List.length_append, HK.out]; try rw [HZ.out]; omega, by rw [List.length_append, HK.out]; omega, by rw [List.length_append, List.map_append, HK.out, HZ.out]; exact hown9, hB2.trans hb9⟩
        case measure => simp [intOf]; omega
    · go_wp2
      go_ret
      exact ⟨u7, bs, rfl, by have := HK.out; omega, by have := HK.out; omega, by rw [HK.out]; exact hown, hB⟩
end Go.Proofs.Ytfjfnfofbhikdaa.Tape
