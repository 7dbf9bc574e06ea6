/- The walk of the law TapeOctets: it returns true and writes nothing that was there. -/
import Derived.Test.YtpneddlfejjdeaaTape6
namespace Go.Proofs.Ytpneddlfejjdeaa.Tape
open Go.ChangeShapes Go.WideShapes Go.ChangeAt Go.RowKit

theorem low_congr {bs cs : List Bool} : ∀ k, (∀ j, j < k → bs.getD j false = cs.getD j false) → low bs k = low cs k
  | 0, _ => rfl
  | k + 1, h => by rw [low, low, h k (by omega), low_congr k (fun j hj => h j (by omega))]

theorem low_all : ∀ n : Fin 256, low ((List.range 8).map fun j => bitAt (n.val : Int) j) 8 = (n.val : Int) := by decide +kernel

theorem low_sum (x : Int) (bs : List Bool) (h0 : 0 ≤ x) (h1 : x ≤ 255) (hb : ∀ j, j < 8 → bs.getD j false = bitAt x j) : low bs 8 = x := by
  obtain ⟨n, rfl⟩ := Int.eq_ofNat_of_zero_le h0
  have h := low_all ⟨n, by omega⟩
  rw [← h]
  refine low_congr 8 (fun j hj => ?_)
  rw [hb j hj]
  simp [List.getD, hj]

theorem octs_bits (xs : List Int) (hx : ∀ x ∈ xs, 0 ≤ x ∧ x ≤ 255) : octsTo (bits xs) xs.length = xs := by
  apply List.ext_getElem
  · rw [octsTo_len]
  · intro i h1 h2
    have hr := hx _ (List.getElem_mem h2)
    simp only [octsTo, List.getElem_map, List.getElem_range]
    refine low_sum xs[i] _ hr.1 hr.2 (fun j hj => ?_)
    have hk : 8 * i + j < 8 * xs.length := by omega
    have e := bits_get xs (8 * i + j) hk
    rw [show (8 * i + j) / 8 = i from by omega, show (8 * i + j) % 8 = j from by omega, getD_get xs i h2] at e
    rw [← e]
    simp [List.getD, bits_len, hk]

theorem owns_below {w w' : World} {base : Nat} {e : TypeId} {v : Value} {n : Nat} {vs : List Value} (h : w.ownsRow base e 1 v n vs) (hb : Below w.heap.size w w') : w'.ownsRow base e 1 v n vs := by
  refine ⟨h.1, ?_⟩
  rcases h.2 with h' | ⟨g, cap, cur, hv, hB, hg, rest⟩
  · exact .inl h'
  · exact .inr ⟨g, cap, cur, hv, hB, by rw [hb.block g (Array.getElem?_eq_some_iff.1 hg).1]; exact hg, rest⟩

/-- The bits that the law puts behind. -/
def ext (j : Nat) : List Bool := (List.range j).map fun (i : Nat) => ((i : Int) % 2 == 0)
theorem ext_succ (j : Nat) : ext (j + 1) = ext j ++ [((j : Int) % 2 == 0)] := by simp [ext, List.range_succ]
theorem ext_len (j : Nat) : (ext j).length = j := by simp [ext]

set_option maxRecDepth 100000 in
set_option maxHeartbeats 4000000 in
theorem octets_walk (ao : Option Addr) (cap : Nat) (xs : List Int) (c : Int) (w : World) (hr : Reads w ao (xs.map (.int .u8))) (hx : ∀ x ∈ xs, 0 ≤ x ∧ x ≤ 255) (wc : (Lit.int .u8 c).wf = true) :
    Calls Try.prog 7 #[.slice ao xs.length cap, .int .u8 c] w fun e w' => e = .returned (.bool true) ∧ Below w.heap.size w w' := by
  obtain ⟨c0, c1⟩ := bounds_u8 wc
  by_cases hlen : 300 < xs.length
  · go_enter Try.func7, Try.ntmps7
    go_wp2_with fail
    refine (awake_any _).mono ?_
    rintro e w1 ⟨rfl, hb1⟩
    go_wp2_with fail
    refine (awake_any _).mono ?_
    rintro e w2 ⟨rfl, hb2⟩
    go_wp2
    go_ret
    exact ⟨rfl, hb1.trans (hb2.mono hb1.size)⟩
  · have hl : xs.length ≤ 300 := by omega
    clear hlen
    obtain ⟨i0, hi, hz0, hz1, hz2⟩ := info_parts info4
    obtain ⟨R, hR⟩ : ∃ R : Nat, c % 8 = (R : Int) := ⟨(c % 8).toNat, by omega⟩
    have hR8 : R < 8 := by omega
    go_enter Try.func7, Try.ntmps7
    go_wp2_with fail
    refine (awake_any _).mono ?_
    rintro e w1 ⟨rfl, hb1⟩
    have hr1 := hr.below (Nat.le_refl _) hb1
    go_wp2_with fail
    refine (of_any _ _ _ _ (by omega) hx hr1).mono ?_
    rintro e w2 ⟨t, rfl, hown, hb2⟩
    have hB2 := hb1.trans (hb2.mono hb1.size)
    have hr2 := hr1.below (Nat.le_refl _) hb2
    obtain ⟨to, ct, rfl, hct, hrt, -⟩ := owns_form hown
    have hown0 := hown
    obtain ⟨L, hL⟩ : ∃ L, xs.length = L := ⟨_, rfl⟩
    have HLL : Hid (xs.length = L) := hL
    have hbl := bits_len xs
    rw [hL] at hbl
    have HBL : Hid ((bits xs).length = 8 * L) := hbl
    have hob : Hid (octsTo (bits xs) L = xs) := by have := octs_bits xs hx; rw [hL] at this; exact this
    rw [hL] at hown hown0 hct hl ⊢
    clear hL hbl
    go_wp2_with fail
    refine (octets_ok _ _ _ (bits xs) _ HBL.out (by omega) hct (by omega) hrt).mono ?_
    rintro e w3 ⟨qv, rfl, hq, hb3⟩
    rw [show 8 * L / 8 = L from by omega, hob.out] at hq
    obtain ⟨qo, cq, rfl, hcq, hrq, hqf⟩ := owns_form hq
    have hB3 := hB2.trans (hb3.mono hB2.size)
    have hr3 := hr2.below (Nat.le_refl _) hb3
    have hown3 := owns_below hown hb3
    have hne3 : (Value.slice qo L cq).ownBlock = none ∨ (Value.slice qo L cq).ownBlock ≠ (Value.slice to (8 * L) ct).ownBlock := by
      cases hqb : (Value.slice qo L cq).ownBlock with
      | none => exact .inl rfl
      | some g => exact .inr (fun e => by have h1 := (hq.lt g hqb).1; have h2 := (hown.lt g e.symm).2; omega)
    have hs13 : w1.heap.size ≤ w3.heap.size := Nat.le_trans hb2.size hb3.size
    have hs1 := hb1.size
    clear hrt hown hown0 hb1 hb2 hb3 hr1 hr2 hr3 hB2 hqf hrq
    go_wp2_with fail
    go_loopw [5, 8] (fun v i wr => ∃ j : Nat, j ≤ R ∧ i = .int .i64 j ∧ wr.ownsRow w1.heap.size 4 1 v (8 * L + j) ((bits xs ++ ext j).map .bool) ∧ wr.ownsRow w2.heap.size 5 1 (.slice qo L cq) L (xs.map (.int .u8)) ∧ ((Value.slice qo L cq).ownBlock = none ∨ (Value.slice qo L cq).ownBlock ≠ v.ownBlock) ∧ Below w.heap.size w wr ∧ w1.heap.size ≤ wr.heap.size) (fun _ i _ => R - (intOf i).toNat)
    case atStart => exact ⟨0, by omega, rfl, by simpa [ext] using hown3, hq, hne3, hB3, hs13⟩
    case round =>
      clear hown3 hq hne3 hB3 hs13
      obtain ⟨j, hj, rfl, hown, hq, hne, hbl, hsz⟩ := hrel
      by_cases hlt : j < R
      · have t1 : (j : Int).tmod 2 = (j : Int) % 2 := by rw [Int.tmod_eq_emod_of_nonneg (by omega)]
        go_wp2_with (at_builtin; refine wpList_append_own_at _ rfl _ _ 33 rfl w1.heap.size 4 i0 (.bool false) 1 1 Try.underlying33 hi hz0 hz1 hz2 rfl (by decide) _ _ _ rfl (hown.alloc _) ⟨wr.heap.size, 0, none⟩ 1 1 [.bool ((j : Int) % 2 == 0)] rfl rfl (cell_one_new _ _ _) (by simp [Value.oneCell']) (by unfold maxLen; omega) (by omega) (by simp; omega) ?_; intro v' w4 hown' hgrow _ hat)
        have hgrow' : (wr.alloc (.cells #[.bool ((j : Int) % 2 == 0)] 4)).grownBy w4 u5.ownBlock := hgrow
        have hat' : v'.ownBlock = u5.ownBlock ∨ v'.ownBlock = some (wr.alloc (.cells #[.bool ((j : Int) % 2 == 0)] 4)).heap.size := hat
        have hq4 := (hq.alloc (.cells #[.bool ((j : Int) % 2 == 0)] 4)).kept hgrow' hne
        have hne4 : (Value.slice qo L cq).ownBlock = none ∨ (Value.slice qo L cq).ownBlock ≠ v'.ownBlock := by
          rcases hat' with e | e
          · rw [e]; exact hne
          · cases hqb : (Value.slice qo L cq).ownBlock with
            | none => exact .inl rfl
            | some g => exact .inr (fun e' => by have h1 := (hq.lt g hqb).2; rw [e, World.size_alloc] at e'; simp at e'; omega)
        have hbl4 := (hbl.alloc hbl.size (.cells #[.bool ((j : Int) % 2 == 0)] 4)).grown hgrow' (by have := hbl.size; simp; omega) (fun k hk => by have := (hown.lt k hk).1; omega)
        have hsz4 : w1.heap.size ≤ w4.heap.size := by have := hgrow'.size; simp at this; omega
        go_roundw
        case rel => exact ⟨j + 1, by omega, by go_num, by rw [ext_succ, ← List.append_assoc, List.map_append]; exact hown', hq4, hne4, hbl4, hsz4⟩
        case measure => simp [intOf]; omega
      · obtain rfl : j = R := by omega
        obtain ⟨to', ct', rfl, hct', hrt', -⟩ := owns_form hown
        have hrq := Reads.of_owns hq
        have hrp := hr.below (Nat.le_refl _) hbl
        clear hown hne hr hq
        by_cases hj0 : j = 0
        · subst hj0
          have tc : (c % 8 == 0) = true := by rw [beq_iff_eq]; omega
          rw [show bits xs ++ ext 0 = bits xs from by simp [ext]] at hrt'
          go_wp2_with fail
          refine (octets_ok _ _ _ (bits xs) _ HBL.out (by omega) (by omega) (by omega) hrt').mono ?_
          rintro e w5 ⟨rv, rfl, hro, hb5⟩
          rw [show 8 * L / 8 = L from by omega, hob.out] at hro
          obtain ⟨ro, cr, rfl, -, hrr, -⟩ := owns_form hro
          have hrt5 := hrt'.below (Nat.le_refl _) hb5
          have hrq5 := hrq.below (Nat.le_refl _) hb5
          have hrp5 := hrp.below (Nat.le_refl _) hb5
          have hB5 := hbl.trans (hb5.mono hbl.size)
          clear hrt' hrq hrp hro
          go_wp2_with fail
          refine (rbits_n _ _ _ _ _ HLL.out (by omega) hx hrp5).mono ?_
          rintro e w6 ⟨bv, rfl, hbo, hb6⟩
          obtain ⟨bo, cb, rfl, -, hrb, -⟩ := owns_form hbo
          have hrt6 := hrt5.below (Nat.le_refl _) hb6
          have hrq6 := hrq5.below (Nat.le_refl _) hb6
          have hrp6 := hrp5.below (Nat.le_refl _) hb6
          have hrr6 := hrr.below (Nat.le_refl _) hb6
          have hB6 := hB5.trans (hb6.mono hB5.size)
          clear hrt5 hrq5 hrp5 hrr hbo hb5
          go_wp2_with fail
          refine (rsame_n _ _ _ _ _ _ (bits xs) (bits xs) _ HBL.out HBL.out (by omega) (by omega) hrt6 hrb).mono ?_
          rintro e w7 ⟨rfl, hb7⟩
          have hdd : decide (bits xs = bits xs) = true := by simp
          have cq7 := conv_reads (cap := cq) HLL.out (hrq6.below (Nat.le_refl _) hb7)
          have cp7 := conv_reads (cap := cap) HLL.out (hrp6.below (Nat.le_refl _) hb7)
          have cr7 := conv_reads (cap := cr) HLL.out (hrr6.below (Nat.le_refl _) hb7)
          have hB7 := hB6.trans (hb7.mono hB6.size)
          clear hrt6 hrq6 hrp6 hrr6 hrb hb6 hb7
          go_wp2
          go_ret
          exact ⟨by simp, hB7⟩
        · have tc : (c % 8 == 0) = false := by rw [beq_eq_false_iff_ne]; omega
          go_wp2_with fail
          refine (octets_err _ _ _ _ (by omega) (by omega)).mono ?_
          rintro e w5 ⟨rfl, hw5⟩
          obtain rfl := hw5.symm
          have cq7 := conv_reads (cap := cq) HLL.out hrq
          have cp7 := conv_reads (cap := cap) HLL.out hrp
          clear hrt' hrq hrp hw5
          go_wp2
          go_ret
          exact ⟨by simp, hbl⟩
end Go.Proofs.Ytpneddlfejjdeaa.Tape
