/- The contract of the hold law's own told. -/
import Derived.Test.YtgdbpblojncjhaaTold1
import Derived.Deep.CutBlock
namespace Go.Proofs.Ytgdbpblojncjhaa.Tape
open Go.ChangeShapes Go.WideShapes Go.ChangeAt Go.RowKit
set_option linter.unusedVariables false
attribute [local go_sem ↓] ldS_def stS_def

theorem size_nil {s : Hs} (h : s.next.length = 0) : s.size = 0 := by
  unfold Hs.size
  rw [List.eq_nil_of_length_eq_zero h]

theorem wrap_small {x : Int} (h0 : -9223372036854775808 ≤ x) (h1 : x < 9223372036854775808) : IntKind.i64.wrap x = x := by
  rw [IntKind.wrap_i64]
  omega

theorem size_get (s : Hs) (h : s.sent.length < (s.sent ++ s.next).length) : ((s.sent ++ s.next)[s.sent.length]'h).length = s.size := by
  obtain ⟨m, o, f, a, b⟩ := s
  cases b with
  | nil => simp at h
  | cons x xs => simp [Hs.size]

set_option maxRecDepth 100000 in
set_option maxHeartbeats 4000000 in
theorem told_any (C b B : Nat) (T : Nat → Prop) (s : Hs) (lo : Option Addr) (n cap : Nat) (m o : Int) (t : Tail) (w : World) (h : Beside w C b B T s lo n cap) :
    Calls Try.prog 20 #[.pointer (some ⟨b, 0, none⟩), .agg (sideC (.slice lo n cap) s.sent.length s.first m o t)] w fun e w' => e = .returned (.bool true) ∧ Below w.heap.size w w' := by
  obtain ⟨W, hW⟩ : ∃ W, W = w.alloc (.cells (sideC (.slice lo n cap) s.sent.length s.first m o t) 29) := ⟨_, rfl⟩
  have hB0 : Below w.heap.size w W := by rw [hW]; exact (Below.refl _ _).alloc (Nat.le_refl _) _
  have hk0 : W.heap[w.heap.size]? = some (.cells (sideC (.slice lo n cap) s.sent.length s.first m o t) 29 (0, 0)) := by rw [hW]; exact heap_alloc_new w _
  have hw := h.below hB0
  obtain ⟨⟨c0, c1, c2, -, -⟩, -⟩ := side_cells hk0
  have hask := asked W C b B T s lo n cap m o t hw
  have hlen := hw.row.len
  have hn : n = s.sent.length + s.next.length := by rw [hlen.1, List.length_append]
  have hnc := hlen.2
  have hP := hw.hold.fine.win
  have hQ := hw.small
  have hF := hw.hold.fine.first
  have hZ0 : s.next.length = 0 → s.size = 0 := size_nil
  have hZ1 : ∀ g off, lo = some ⟨g, off, none⟩ → s.sent.length < n → ∃ ao mc, W.cell? ⟨g, off + s.sent.length, none⟩ = some (.slice ao s.size mc) := by
    intro g off hlo hlt
    obtain ⟨us, hr, he, -⟩ := hw.row
    obtain ⟨hnu, -, -, hrd⟩ := hr.cell
    have hku : s.sent.length < us.length := by omega
    have hkm : s.sent.length < (s.sent ++ s.next).length := by rw [List.length_append]; omega
    obtain ⟨ao, mc, hu⟩ := (he.get _ hku hkm).len
    obtain ⟨g', off', e, hc⟩ := hrd _ _ (List.getElem?_eq_getElem hku)
    rw [hlo] at e
    simp only [Option.some.injEq, Addr.mk.injEq, and_true] at e
    obtain ⟨rfl, rfl⟩ := e
    refine ⟨ao, mc, ?_⟩
    rw [hc, hu]
    rw [size_get]
  have hlo : s.sent.length < n → ∃ g off, lo = some ⟨g, off, none⟩ := by
    intro hlt
    obtain ⟨us, hr, -, -⟩ := hw.row
    obtain ⟨hnu, -, -, hrd⟩ := hr.cell
    exact reads_some hrd (by omega)
  have HW : Hid (Beside W C b B T s lo n cap ∧ W.heap[w.heap.size]? = some (.cells (sideC (.slice lo n cap) s.sent.length s.first m o t) 29 (0, 0)) ∧ Below w.heap.size w W) := ⟨hw, hk0, hB0⟩
  have HA : Hid (Asked W b s.sent.length s.next.length (sz (s.sent ++ s.next)) (sz s.sent) s.size s.first s.last lo n cap (sideC (.slice lo n cap) s.sent.length s.first m o t)) := hask
  have hLa : 0 ≤ s.last ∧ s.last < 128 := by unfold Hs.last; omega
  clear hask hk0 hB0 hw hlen h
  obtain ⟨L, hL⟩ : ∃ L, L = sideC (.slice lo n cap) s.sent.length s.first m o t := ⟨_, rfl⟩
  rw [← hL] at hW HA HW ⊢
  obtain ⟨P, eP⟩ : ∃ P, s.sent.length = P := ⟨_, rfl⟩
  obtain ⟨Q, eQ⟩ : ∃ Q, s.next.length = Q := ⟨_, rfl⟩
  obtain ⟨O, eO⟩ : ∃ O, sz (s.sent ++ s.next) = O := ⟨_, rfl⟩
  obtain ⟨X, eX⟩ : ∃ X, sz s.sent = X := ⟨_, rfl⟩
  obtain ⟨Z, eZ⟩ : ∃ Z, s.size = Z := ⟨_, rfl⟩
  obtain ⟨F, eF⟩ : ∃ F, s.first = F := ⟨_, rfl⟩
  obtain ⟨La, eLa⟩ : ∃ La, s.last = La := ⟨_, rfl⟩
  rw [eP, eQ, eO, eX, eZ, eF, eLa] at HA
  rw [eP] at c1 hn hP hZ1 hlo
  rw [eQ] at hn hQ hZ0
  rw [eZ] at hZ0 hZ1
  rw [eF] at c2 hF
  rw [eLa] at hLa
  have HE : Hid (L = sideC (.slice lo n cap) P F m o t ∧ s.sent.length = P ∧ s.next.length = Q ∧ s.first = F ∧ s.last = La) := ⟨by rw [hL, eP, eF], eP, eQ, eF, eLa⟩
  clear hL eP eQ eO eX eZ eF eLa
  go_enter Try.func20, Try.ntmps20
  go_upto_region 1 with fail
  rw [← hW]
  clear hW
  go_upto_if 16 with fail
  go_cut [5] from 11 (fun x Y => x = .int .i64 (Z : Nat) ∧ Y = W)
  case first =>
    by_cases hlt : P < n
    · obtain ⟨g, off, rfl⟩ := hlo hlt
      obtain ⟨ao, mc, hc⟩ := hZ1 g off rfl hlt
      clear hlo hZ1 hZ0
      go_wp2
      go_meet
      case rel => exact ⟨rfl, rfl⟩
    · have hz := hZ0 (by omega)
      subst hz
      clear hlo hZ1 hZ0
      go_wp2
      go_meet
      case rel => exact ⟨rfl, rfl⟩
  case rest =>
    obtain ⟨rfl, hWc⟩ := hcut
    have hWc' := hWc.symm
    subst hWc'
    clear hlo hZ1 hZ0
    have hsz18 : L.size = 18 := by rw [HE.out.1]; rfl
    have HS : Hid (∀ Y, Below W.heap.size W Y → Y.cell? ⟨w.heap.size, 0, none⟩ = some (.slice lo n cap) ∧ Y.cell? ⟨w.heap.size, 1, none⟩ = some (.int .i64 P) ∧ Y.cell? ⟨w.heap.size, 2, none⟩ = some (.int .i64 F) ∧ (ldS (.pointer (some ⟨w.heap.size, 0, none⟩))).run Try.prog Y = .ok (.agg L) Y) :=
      fun Y hY => ⟨(hY.cell (World.block_lt_of_cell? W _ c0)).trans c0, (hY.cell (World.block_lt_of_cell? W _ c1)).trans c1, (hY.cell (World.block_lt_of_cell? W _ c2)).trans c2, (ld_side ((hY.block _ (heap_lt HW.out.2.1)).trans HW.out.2.1) hsz18).1⟩
    have e1 : (n : Int) - (P : Int) = (Q : Int) := by omega
    have q1 : P ≤ cap := by omega
    have q2 : (P : Int) ≤ (cap : Int) := by omega
    have r1 : IntKind.i64.wrap (Q : Int) = (Q : Int) := wrap_small (by omega) (by omega)
    have r2 : IntKind.i64.wrap ((P : Int) - 1) = (P : Int) - 1 := wrap_small (by omega) (by omega)
    have r3 : IntKind.i64.wrap (F : Int) = (F : Int) := wrap_small (by omega) (by omega)
    have r4 : IntKind.i64.wrap La = La := wrap_small (by omega) (by omega)
    have hD : Below W.heap.size W W.drew := (Below.refl _ _).drew
    have HN : Hid (n = P + Q) := hn
    clear hsz18 c0 c1 c2 hn
    go_upto_region 4 with fail
    go_cut [83] from 11 (fun x Y => x = .bool false ∧ Below W.heap.size W Y)
    case first =>
      as_aux_lemma =>
        go_region_held (fun Y => Y.cell? ⟨w.heap.size, 0, none⟩ = some (.slice lo n cap) ∧ Y.cell? ⟨w.heap.size, 1, none⟩ = some (.int .i64 P) ∧ Y.cell? ⟨w.heap.size, 2, none⟩ = some (.int .i64 F) ∧ (ldS (.pointer (some ⟨w.heap.size, 0, none⟩))).run Try.prog Y = .ok (.agg L) Y) ((refine HS.out _ ?_; assumption))
          (first
          | (go_at_call 21; refine (HA.out.sent _ (by assumption)).mono ?_; rintro e w21 ⟨rfl, hB21⟩)
          | (go_at_call 23; refine (HA.out.next _ (by assumption)).mono ?_; rintro e w23 ⟨rfl, hB23⟩)
          | (go_at_call 24; refine (HA.out.octets _ (by assumption)).mono ?_; rintro e w24 ⟨rfl, hB24⟩)
          | (go_at_call 34; refine (HA.out.waiting _ (by assumption)).mono ?_; rintro e w34 ⟨rfl, hB34⟩)
          | (go_at_call 22; have hB34 := hB34; refine (HA.out.rsent _ (by assumption)).mono ?_; rintro e w22b ⟨rfl, hB22b⟩)
          | (go_at_call 22; refine (HA.out.rall _ (by assumption)).mono ?_; rintro e w22 ⟨rfl, hB22⟩)
          | (go_at_call 35; refine (HA.out.size _ (by assumption)).mono ?_; rintro e w35 ⟨rfl, hB35⟩)
          | (go_at_call 36; refine (HA.out.first _ (by assumption)).mono ?_; rintro e w36 ⟨rfl, hB36⟩)
          | (go_at_call 37; refine (HA.out.last _ (by assumption)).mono ?_; rintro e w37 ⟨rfl, hB37⟩)
          | (go_at_call 13; refine (HA.out.rnum _ (by assumption) _ (by omega)).mono ?_; rintro e w13 ⟨rfl, hB13⟩))
        go_wp2
        go_meet
        case rel => exact ⟨rfl, hB13⟩
    case rest =>
      obtain ⟨rfl, hB4⟩ := hcut
      clear e1 q1 q2 r1 r2 r3 r4 hD HA
      go_wp2_with fail
      go_loopw [6] (fun i wr => ∃ I : Int, -1 ≤ I ∧ I ≤ P + 1 ∧ i = .int .i64 I ∧ Below W.heap.size W wr) (fun i _ => ((P : Int) + 1 - intOf i).toNat)
      case atStart => exact ⟨-1, by omega, by omega, rfl, hB4⟩
      case round =>
        clear hB4
        obtain ⟨I, hI0, hI1, rfl, hBr⟩ := hrel
        obtain ⟨c0, c1, c2, hld⟩ := HS.out wr hBr
        have hbes := HW.out.1.below hBr
        by_cases hneg : I = -1
        · have hat := at_out b B T s I wr hbes.hold (.inl (by omega))
          subst hneg
          go_wp2_with (go_at_call 28; refine hat.mono ?_; rintro e w5 ⟨rfl, hw5⟩; obtain rfl := hw5.symm; clear hw5)
          go_roundw
          case rel => exact ⟨0, by omega, by omega, rfl, hBr⟩
          case measure => simp [intOf]; omega
        · by_cases hend : I ≤ P
          · by_cases heq : I = P
            · have hat := at_out b B T s I wr hbes.hold (.inr (by have := HE.out.2.1; omega))
              subst heq
              go_wp2_with (go_at_call 28; refine hat.mono ?_; rintro e w5 ⟨rfl, hw5⟩; obtain rfl := hw5.symm; clear hw5)
              go_roundw
              case rel => exact ⟨P + 1, by omega, by omega, by go_num, hBr⟩
              case measure => simp [intOf]
            · obtain ⟨j, rfl⟩ : ∃ j : Nat, I = (j : Int) := ⟨I.toNat, by omega⟩
              have hjs : j < s.sent.length := by have := HE.out.2.1; omega
              have hat := at_in b B T s j wr hbes.hold hjs
              obtain ⟨g, off, ao, mc, rfl, hc, hrd⟩ := hbes.row.get j (by rw [List.length_append]; omega)
              rw [List.getElem_append_left hjs] at hc hrd
              obtain ⟨us0, sv0, hr0, he0⟩ := hbes.hold.sent_each
              have hmsg := he0.get j (by rw [he0.len]; exact hjs) hjs
              have h3 := hmsg.2.1
              have hnum := fun Y => rnumber_any (.slice (some ⟨g, off, none⟩) n cap) P F m o t j Y (by omega) (by omega) (by omega) (by omega)
              rw [← HE.out.1] at hnum
              rw [HE.out.2.2.2.1] at hat
              generalize s.sent[j] = x at *
              obtain ⟨X, hX⟩ : ∃ X, x.length = X := ⟨_, rfl⟩
              rw [hX] at hc hat h3
              obtain ⟨r, hr⟩ : ∃ r : Int, ((F : Int) + j) % 128 = r := ⟨_, rfl⟩
              have r0 : 0 ≤ r := by omega
              have r1 : r < 128 := by omega
              rw [hr] at hat hnum
              have HX : Hid (x.length = X ∧ Reads wr ao (x.map (.int .u8)) ∧ wr.cell? ⟨g, off + j, none⟩ = some (.slice ao X mc)) := ⟨hX, hrd, hc⟩
              have HNUM : Hid (∀ Y, Calls Try.prog 13 #[.agg L, .int .i64 j] Y fun e w' => e = .returned (.int .i64 r) ∧ Below Y.heap.size Y w') := hnum
              have HBR : Hid (Below W.heap.size W wr) := hBr
              have hjn : j < n := by have := HN.out; omega
              clear hbes hjs hmsg he0 hr0 hX hr hnum hrd hc hld c2
              go_wp2_with fail
              refine hat.mono ?_
              rintro e w5 ⟨v5, rfl, hown5, hB5⟩
              obtain ⟨g5, c5, rfl⟩ := owns_some hown5 (by omega)
              have hcv := conv_reads (cap := c5) HX.out.1 (Reads.of_owns hown5)
              have HS5 : Hid (∀ Y, Below w5.heap.size w5 Y → Y.cell? ⟨w.heap.size, 0, none⟩ = some (.slice (some ⟨g, off, none⟩) n cap) ∧ Y.cell? ⟨g, off + j, none⟩ = some (.slice ao X mc) ∧ (ldS (.pointer (some ⟨w.heap.size, 0, none⟩))).run Try.prog Y = .ok (.agg L) Y ∧ (convert 31 9 (.slice (some ⟨g5, 0, none⟩) X c5)).run Try.prog Y = .ok (.string (str x)) Y ∧ (convert 31 9 (.slice ao X mc)).run Try.prog Y = .ok (.string (str x)) Y) := by
                intro Y hY
                have hwY := hB5.trans (below_le hY hB5.size)
                obtain ⟨d0, -, -, d3⟩ := HS.out Y (HBR.out.trans (below_le hwY HBR.out.size))
                exact ⟨d0, (hwY.cell (World.block_lt_of_cell? wr _ HX.out.2.2)).trans HX.out.2.2, d3, conv_reads HX.out.1 ((Reads.of_owns hown5).below (Nat.le_refl _) hY), conv_reads HX.out.1 (HX.out.2.1.below (Nat.le_refl _) hwY)⟩
              have HB5 : Hid (Below wr.heap.size wr w5) := hB5
              have hD5 : Below w5.heap.size w5 w5.drew := (Below.refl _ _).drew
              have r3 : IntKind.i64.wrap r = r := wrap_small (by omega) (by omega)
              have j1 : (j : Int) < (n : Int) := by omega
              have j2 : (0 : Int) ≤ (j : Int) := by omega
              have j3 : ((j : Int) == (P : Int)) = false := by rw [beq_eq_false_iff_ne]; exact heq
              have c1' : w5.cell? ⟨w.heap.size, 1, none⟩ = some (.int .i64 P) := (hB5.cell (World.block_lt_of_cell? wr _ c1)).trans c1
              clear hat hown5 hB5 hcv c0 c1
              go_wp2_with fail
              go_region_held (fun Y => Y.cell? ⟨w.heap.size, 0, none⟩ = some (.slice (some ⟨g, off, none⟩) n cap) ∧ Y.cell? ⟨g, off + j, none⟩ = some (.slice ao X mc) ∧ (ldS (.pointer (some ⟨w.heap.size, 0, none⟩))).run Try.prog Y = .ok (.agg L) Y ∧ (convert 31 9 (.slice (some ⟨g5, 0, none⟩) X c5)).run Try.prog Y = .ok (.string (str x)) Y ∧ (convert 31 9 (.slice ao X mc)).run Try.prog Y = .ok (.string (str x)) Y) ((refine HS5.out _ ?_; assumption))
                ((go_at_call 13; refine (HNUM.out _).mono ?_; rintro e w6 ⟨rfl, hB6⟩; have hB7 := hD5.trans (below_le hB6 hD5.size)))
              go_wp2
              go_roundw
              case rel => exact ⟨j + 1, by omega, by omega, by go_num, HBR.out.trans (below_le (HB5.out.trans (below_le hB7 HB5.out.size)) HBR.out.size)⟩
              case measure => simp [intOf]; omega
          · have e1 : decide (I ≤ (P : Int)) = false := decide_eq_false hend
            go_wp2_with fail
            try rw [e1]
            clear e1 hneg hend hI0 hI1 c0 c1 c2 hld hbes
            go_loopw [10] (fun i wx => ∃ k : Nat, k ≤ 52 ∧ i = .int .i64 ((5 * k : Nat) : Int) ∧ Below W.heap.size W wx) (fun i _ => (260 - intOf i).toNat)
            case atStart => exact ⟨0, by omega, rfl, hBr⟩
            case round =>
              clear hBr
              obtain ⟨k, hk, rfl, hBx⟩ := hrel
              obtain ⟨N, hN⟩ : ∃ N : Nat, 5 * k = N := ⟨_, rfl⟩
              rw [hN]
              have HNK : Hid (5 * k = N) := hN
              by_cases hlt : N < 256
              · have hkn := fun Y (hY : Below W.heap.size W Y) => knows_any b B T s N Y (HW.out.1.below hY).hold (by omega) (by omega)
                have hbe := fun Y => rbehind_any (.slice lo n cap) P F m o t N Y (by omega) (by omega) (by omega) (by omega)
                rw [← HE.out.1] at hbe
                have hiff : (s.knows N = true) = (0 ≤ bhd P F N) := by
                  have e1 := HE.out.2.1
                  have e2 := HE.out.2.2.2.1
                  unfold Hs.knows bhd
                  rw [decide_eq_true_iff, e1, e2]
                  apply propext
                  by_cases hc : (N : Int) < 0 ∨ 127 < (N : Int)
                  · rw [if_pos hc]; omega
                  · rw [if_neg hc]
                    split <;> omega
                obtain ⟨D, hD⟩ : ∃ D, bhd P F N = D := ⟨_, rfl⟩
                rw [hD] at hbe hiff
                obtain ⟨K, hK⟩ : ∃ K, s.knows N = K := ⟨_, rfl⟩
                rw [hK] at hiff
                have HKN : Hid (∀ Y, Below W.heap.size W Y → Calls Try.prog 31 #[.pointer (some ⟨b, 0, none⟩), .int .u8 N] Y fun e w' => e = .returned (.bool K) ∧ w' = Y) := fun Y hY => hK ▸ hkn Y hY
                have HBE : Hid (∀ Y, Calls Try.prog 30 #[.agg L, .int .i64 N] Y fun e w' => e = .returned (.int .i64 D) ∧ Below Y.heap.size Y w') := hbe
                have hDx : Below W.heap.size W wr.drew := hBx.drew
                have hKD : decide (D ≥ 0) = K := by
                  cases K
                  · rw [decide_eq_false_iff_not]
                    intro h
                    have := hiff.mpr h
                    cases this
                  · rw [decide_eq_true_iff]
                    exact hiff.mp rfl
                have HLD : Hid (∀ Y, Below W.heap.size W Y → (ldS (.pointer (some ⟨w.heap.size, 0, none⟩))).run Try.prog Y = .ok (.agg L) Y) := fun Y hY => (HS.out Y hY).2.2.2
                have hu8 : IntKind.u8.wrap (N : Int) = (N : Int) := by rw [IntKind.wrap_u8]; omega
                clear hkn hbe hiff hK hD hN
                go_wp2_with fail
                go_region_held (fun Y => (ldS (.pointer (some ⟨w.heap.size, 0, none⟩))).run Try.prog Y = .ok (.agg L) Y) ((refine HLD.out _ ?_; assumption))
                  (first
                  | (go_at_call 31; refine (HKN.out _ (by assumption)).mono ?_; rintro e w7 ⟨rfl, hw7⟩; obtain rfl := hw7.symm; clear hw7)
                  | (go_at_call 30; refine (HBE.out _).mono ?_; rintro e w8 ⟨rfl, hB8⟩; have hB9 := hDx.trans (below_le hB8 hDx.size)))
                go_wp2
                go_roundw
                case rel => exact ⟨k + 1, by have := HNK.out; omega, by have := HNK.out; rw [show 5 * (k + 1) = N + 5 by omega]; go_num, hB9⟩
                case measure => simp [intOf]; omega
              · have e2 : decide ((N : Int) < 256) = false := decide_eq_false (by omega)
                go_wp2
                go_ret
                exact ⟨rfl, HW.out.2.2.trans (below_le hBx HW.out.2.2.size)⟩
end Go.Proofs.Ytgdbpblojncjhaa.Tape
