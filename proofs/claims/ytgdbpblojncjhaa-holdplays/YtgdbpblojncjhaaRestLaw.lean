/- The contract of the hold law's own rest. -/
import Derived.Test.YtgdbpblojncjhaaTold1
import Derived.Deep.CutBlock
namespace Go.Proofs.Ytgdbpblojncjhaa.Tape
open Go.ChangeShapes Go.WideShapes Go.ChangeAt Go.RowKit
set_option linter.unusedVariables false
attribute [local go_sem ↓] ldS_def stS_def

theorem knows_bhd {s : Hs} {n : Int} (h0 : 0 ≤ n) : (s.knows n = true → bhd s.sent.length s.first n = s.upTo n) ∧ (s.knows n = false → bhd s.sent.length s.first n = -1) := by
  unfold Hs.knows bhd Hs.upTo
  constructor
  · intro h
    have h := of_decide_eq_true h
    rw [if_neg (by omega), if_neg (by omega)]
    omega
  · intro h
    have h := of_decide_eq_false h
    by_cases hc : n < 0 ∨ 127 < n
    · rw [if_pos hc]
    · rw [if_neg hc, if_pos (by omega)]

set_option maxRecDepth 100000 in
set_option maxHeartbeats 2000000 in
theorem restlaw_any (C b B : Nat) (T : Nat → Prop) (s : Hs) (lo : Option Addr) (n cap : Nat) (m o x : Int) (t : Tail) (w : World) (h : Beside w C b B T s lo n cap) (hx0 : 0 ≤ x) (hx1 : x ≤ 255) :
    Calls Try.prog 14 #[.pointer (some ⟨b, 0, none⟩), .agg (sideC (.slice lo n cap) s.sent.length s.first m o t), .int .u8 x] w fun e w' => e = .returned (.bool true) ∧ Below w.heap.size w w' := by
  obtain ⟨W, hW⟩ : ∃ W, W = w.alloc (.cells (sideC (.slice lo n cap) s.sent.length s.first m o t) 29) := ⟨_, rfl⟩
  have hB0 : Below w.heap.size w W := by rw [hW]; exact (Below.refl _ _).alloc (Nat.le_refl _) _
  have hk0 : W.heap[w.heap.size]? = some (.cells (sideC (.slice lo n cap) s.sent.length s.first m o t) 29 (0, 0)) := by rw [hW]; exact heap_alloc_new w _
  have hw := h.below hB0
  have hlen := hw.row.len
  have hn : n = s.sent.length + s.next.length := by rw [hlen.1, List.length_append]
  have hP := hw.hold.fine.win
  have hQ := hw.small
  have hF := hw.hold.fine.first
  have hkb := knows_bhd (s := s) hx0
  have hbe := fun Y => rbehind_any (.slice lo n cap) s.sent.length s.first m o t x Y (by omega) (by omega) (by omega) (by omega)
  cases hK : s.knows x with
  | false =>
    have hre := rest_no b B T s x W hw.hold hx0 hx1 hK
    rw [hkb.2 hK] at hbe
    have hld := (ld_side hk0 rfl).1
    clear hkb hw h hlen hn
    go_enter Try.func14, Try.ntmps14
    go_upto_region 1 with fail
    rw [← hW]
    clear hW
    go_wp2_with (first
      | (go_at_call 29; refine hre.mono ?_; rintro e w1 ⟨rfl, hw1⟩; obtain rfl := hw1.symm; clear hw1)
      | (go_at_call 30; refine (hbe _).mono ?_; rintro e w2 ⟨rfl, hB2⟩))
    go_ret
    exact ⟨rfl, hB0.trans (below_le hB2 hB0.size)⟩
  | true =>
    have hre := rest_any b B T s x W hw.hold hx0 hK
    rw [hkb.1 hK] at hbe
    have hk' := of_decide_eq_true hK
    have hU : s.upTo x ≤ s.sent.length := by unfold Hs.upTo; omega
    have hlist : s.sent.drop (s.upTo x) ++ s.next = (s.sent ++ s.next).drop (s.upTo x) := by rw [List.drop_append_of_le_length hU]
    rw [hlist] at hre
    have hall : (s.sent ++ s.next).length = n := by rw [List.length_append]; omega
    have HROW : Hid (∀ Y, Below W.heap.size W Y → LRow Y C B T lo n cap (s.sent ++ s.next)) := fun Y hY => hw.row.below hY hw.le
    obtain ⟨L, hL⟩ : ∃ L, L = sideC (.slice lo n cap) s.sent.length s.first m o t := ⟨_, rfl⟩
    rw [← hL] at hW hbe hk0 ⊢
    have hsz18 : L.size = 18 := by rw [hL]; rfl
    have c0 : W.cell? ⟨w.heap.size, 0, none⟩ = some (.slice lo n cap) := by rw [hL] at hk0; exact (side_cells hk0).1.1
    have HK0 : Hid (W.heap[w.heap.size]? = some (.cells L 29 (0, 0)) ∧ L.size = 18 ∧ W.cell? ⟨w.heap.size, 0, none⟩ = some (.slice lo n cap) ∧ Below w.heap.size w W) := ⟨hk0, hsz18, c0, hB0⟩
    generalize s.sent ++ s.next = ms at *
    have hUn : s.upTo x ≤ n := by omega
    generalize s.upTo x = k at *
    generalize s.sent.length = P at *
    have HA : Hid (ms.length = n) := hall
    have hn2 : n ≤ 200000 := by omega
    clear hkb hk' hU hlist hw h hlen hL hk0 hsz18 hB0 hK hall c0 hn
    go_enter Try.func14, Try.ntmps14
    go_upto_region 1 with fail
    rw [← hW]
    clear hW
    go_wp2_with fail
    refine hre.mono ?_
    rintro e w1 ⟨v1, us1, rfl, hr1, he1, hB1⟩
    obtain ⟨ao1, n1, c1, rfl⟩ := hr1.form3
    have hn1 : n1 = n - k := by rw [hr1.cell.1, he1.len, List.length_drop, HA.out]
    subst hn1
    have hld1 := (ld_side ((hB1.block _ (heap_lt HK0.out.1)).trans HK0.out.1) HK0.out.2.1).1
    clear hre
    go_wp2_with fail
    refine (hbe _).mono ?_
    rintro e w2 ⟨rfl, hB2⟩
    have hB12 := hB1.trans (below_le hB2 hB1.size)
    have c0 : w2.cell? ⟨w.heap.size, 0, none⟩ = some (.slice lo n cap) := (hB12.cell (World.block_lt_of_cell? W _ HK0.out.2.2.1)).trans HK0.out.2.2.1
    have e1 : (n : Int) - (k : Int) = ((n - k : Nat) : Int) := by omega
    have hr2 : RowAt w2 (.slice ao1 (n - k) c1) us1 := hr1.at_ fun g hg => hB2.block g (hr1.lt g hg)
    have he2 : Each (HMsg w2 W.heap.size) us1 (ms.drop k) := he1.mono fun u y hm => hm.below hB2
    obtain ⟨D, hD⟩ : ∃ D, n - k = D := ⟨_, rfl⟩
    rw [hD] at e1 hr2
    rw [hD]
    have HD : Hid (n - k = D) := hD
    have HR : Hid (RowAt w2 (.slice ao1 D c1) us1 ∧ Each (HMsg w2 W.heap.size) us1 (ms.drop k) ∧ Below W.heap.size W w2 ∧ (∀ Y, Below W.heap.size W Y → LRow Y C B T lo n cap ms)) := ⟨hr2, he2, hB12, HROW.out⟩
    clear hbe hld1 hr1 he1 hB1 hB2 hr2 he2 hB12 hD HROW
    have hwD : wrap64 (D : Int) = (D : Int) := by have := HD.out; unfold wrap64; omega
    have ekk : decide ((k : Int) < 0) = false := decide_eq_false (by omega)
    go_wp2_with fail
    try rw [ekk]
    try rw [hwD]
    clear ekk
    go_loopw [10] (fun i wr => ∃ j : Nat, j ≤ D ∧ i = .int .i64 j ∧ Below w2.heap.size w2 wr) (fun i _ => D - (intOf i).toNat)
    case atStart => exact ⟨0, by omega, rfl, Below.refl _ _⟩
    case round =>
      obtain ⟨j, hj, rfl, hBr⟩ := hrel
      by_cases hlt : j < D
      · obtain ⟨hr2, he2, hB12, hro⟩ := HR.out
        have hBW := hB12.trans (below_le hBr hB12.size)
        have hkj : k + j < ms.length := by have := HA.out; have := HD.out; omega
        obtain ⟨g, off, ao, mc, rfl, hc, hrd⟩ := (hro wr hBW).get (k + j) hkj
        obtain ⟨hnu, -, -, hrd1⟩ := hr2.cell
        have hju : j < us1.length := by omega
        have hjm : j < (ms.drop k).length := by rw [List.length_drop]; omega
        have hm := he2.get j hju hjm
        obtain ⟨g1, c11, cur, hu, -, -, -, hrm⟩ := hm.form
        obtain ⟨g2, off2, rfl, hc2⟩ := hrd1 j _ (List.getElem?_eq_getElem hju)
        rw [hu] at hc2
        have hc2' := (hBr.cell (World.block_lt_of_cell? w2 _ hc2)).trans hc2
        have hrm' := hrm.below (Nat.le_refl _) hBr
        rw [List.getElem_drop] at hc2' hrm'
        generalize ms[k + j] = y at *
        obtain ⟨X, hX⟩ : ∃ X, y.length = X := ⟨_, rfl⟩
        rw [hX] at hc hc2'
        have c0r := (hBr.cell (World.block_lt_of_cell? w2 _ c0)).trans c0
        have HS : Hid (∀ Y, Below wr.heap.size wr Y → Y.cell? ⟨w.heap.size, 0, none⟩ = some (.slice (some ⟨g, off, none⟩) n cap) ∧ Y.cell? ⟨g, off + (k + j), none⟩ = some (.slice ao X mc) ∧ Y.cell? ⟨g2, off2 + j, none⟩ = some (.slice (some ⟨g1, 0, none⟩) X c11) ∧ (convert 31 9 (.slice (some ⟨g1, 0, none⟩) X c11)).run Try.prog Y = .ok (.string (str y)) Y ∧ (convert 31 9 (.slice ao X mc)).run Try.prog Y = .ok (.string (str y)) Y) :=
          fun Y hY => ⟨(hY.cell (World.block_lt_of_cell? wr _ c0r)).trans c0r, (hY.cell (World.block_lt_of_cell? wr _ hc)).trans hc, (hY.cell (World.block_lt_of_cell? wr _ hc2')).trans hc2', conv_reads hX (hrm'.below (Nat.le_refl _) hY), conv_reads hX (hrd.below (Nat.le_refl _) hY)⟩
        have hD2 : Below wr.heap.size wr wr.drew := (Below.refl _ _).drew
        have HBR : Hid (Below w2.heap.size w2 wr) := hBr
        have hw1 : IntKind.i64.wrap ((k : Int) + (j : Int)) = (k : Int) + (j : Int) := by have := HA.out; rw [IntKind.wrap_i64]; omega
        have hkn : k + j < n := by have := HA.out; omega
        have i1 : (k : Int) + (j : Int) < (n : Int) := by omega
        have i2 : (0 : Int) ≤ (k : Int) + (j : Int) := by omega
        have i3 : (j : Int) < (D : Int) := by omega
        have i4 : ((k : Int) + (j : Int)).toNat = k + j := by omega
        clear hr2 he2 hB12 hro hBW hkj hrd hrd1 hnu hju hjm hm hu hrm hc2 hrm' hX hc hc2' c0r hBr
        go_wp2_with fail
        go_region_held (fun Y => Y.cell? ⟨w.heap.size, 0, none⟩ = some (.slice (some ⟨g, off, none⟩) n cap) ∧ Y.cell? ⟨g, off + (k + j), none⟩ = some (.slice ao X mc) ∧ Y.cell? ⟨g2, off2 + j, none⟩ = some (.slice (some ⟨g1, 0, none⟩) X c11) ∧ (convert 31 9 (.slice (some ⟨g1, 0, none⟩) X c11)).run Try.prog Y = .ok (.string (str y)) Y ∧ (convert 31 9 (.slice ao X mc)).run Try.prog Y = .ok (.string (str y)) Y) ((refine HS.out _ ?_; assumption)) (fail)
        go_wp2
        go_roundw
        case rel => exact ⟨j + 1, by omega, by go_num, HBR.out.drew⟩
        case measure => simp [intOf]; omega
      · have hfin : Below w.heap.size w wr := HK0.out.2.2.2.trans (below_le (HR.out.2.2.1.trans (below_le hBr HR.out.2.2.1.size)) HK0.out.2.2.2.size)
        obtain rfl : j = D := by omega
        clear hlt
        go_wp2
        go_ret
        exact ⟨rfl, hfin⟩
end Go.Proofs.Ytgdbpblojncjhaa.Tape
