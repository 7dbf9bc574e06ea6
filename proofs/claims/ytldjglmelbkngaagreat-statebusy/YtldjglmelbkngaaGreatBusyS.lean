/- The walk of the law StateBusy. -/
import Derived.Test.YtldjglmelbkngaaGreatClo2
import Derived.Test.YtldjglmelbkngaaGreatState20
import Derived.Test.YtldjglmelbkngaaGreatAsksW
namespace Go.Proofs.YtldjglmelbkngaaGreat.Tape
open Go.ChangeShapes Go.WideShapes Go.ChangeAt Go.RowKit
set_option linter.unusedVariables false

attribute [local go_sem ↓] ldU_def stU_def

/-- The states of the law's rounds: k: how often the other side says that it is busy; t: when it answers. -/
def BI (c : Bool) (k t j : Nat) (x : St) : Prop :=
  (j = 0 ∧ x = bS c) ∨ (0 < j ∧ j ≤ t ∧ j ≤ 29 ∧ x = bM c (30 - (j : Int)) (24 - (((j - 1) % k : Nat) : Int))) ∨ (j = 30 ∧ 30 ≤ t ∧ x = bO c) ∨ (t < j ∧ t ≤ 29 ∧ x = bE c (decide (0 < t)))
theorem BI.room {c : Bool} {k t j : Nat} {x : St} (h : BI c k t j x) : Room 900 x := by
  rcases h with ⟨-, rfl⟩ | ⟨-, -, -, rfl⟩ | ⟨-, -, rfl⟩ | ⟨-, -, rfl⟩
  · exact (bS_room c).2.2
  · exact bM_room _ _ _
  · exact (bO_all c).2.2
  · exact (bE_all c _).2.2.1
theorem next_mod2 (k m : Nat) (hm : 0 < m) : (k + 1) % m = if k % m + 1 = m then 0 else k % m + 1 := by
  have hd := Nat.div_add_mod k m
  have hl := Nat.mod_lt k hm
  generalize k % m = d at *
  generalize k / m = q at *
  subst hd
  split
  · rename_i h
    rw [show m * q + d + 1 = m * (q + 1) by rw [Nat.mul_succ]; omega]
    exact Nat.mul_mod_right _ _
  · rw [show m * q + d + 1 = m * q + (d + 1) by omega, Nat.mul_add_mod]
    exact Nat.mod_eq_of_lt (by omega)
/-- One tick of the busy one's. -/
theorem BI.busy {c : Bool} {k t j : Nat} (hj : j < t) (hj2 : j ≤ 29) (hk : 0 < k) (hk2 : k ≤ 20) (z : Int) (hz : z = 25 - ((j % k : Nat) : Int)) : BI c k t (j + 1) ((bM c (30 - (j : Int)) z).tick) := by
  have hl := Nat.mod_lt j hk
  by_cases h : j = 29
  · refine .inr (.inr (.inl ⟨by omega, by omega, ?_⟩))
    rw [show (30 : Int) - (j : Int) = 1 by omega]
    exact bO_eq c z (by omega) (by omega)
  · refine .inr (.inl ⟨by omega, by omega, by omega, ?_⟩)
    rw [bM_tick c _ _ (by omega) (by omega), show j + 1 - 1 = j from rfl]
    congr 1 <;> omega
/-- A round, by its ways. -/
theorem BI.step {c : Bool} {k t j : Nat} {x : St} (h : BI c k t j x) (hj : j < 60) (hk : 0 < k) (hk2 : k ≤ 20) :
    (30 ≤ t ∧ x = bO c) ∨ (x.s = 4 ∧ ((j < t ∧ j % k = 0 ∧ ∀ q, BI c k t (j + 1) ((x.hear 127 127 1 5 true true q).tick)) ∨ (j = t ∧ ∀ q, BI c k t (j + 1) ((x.hear 0 127 0 0 true true q).tick)) ∨ (¬ (j % k = 0 ∧ j < t) ∧ ¬ j = t ∧ BI c k t (j + 1) x.tick))) := by
  rcases h with ⟨rfl, rfl⟩ | ⟨h0, h1, h2, rfl⟩ | ⟨rfl, h1, rfl⟩ | ⟨h1, h2, rfl⟩
  · refine .inr ⟨by cases c <;> rfl, ?_⟩
    by_cases ht : t = 0
    · refine .inr (.inl ⟨ht.symm, fun q => ?_⟩)
      rw [bE_0, (bE_all c false).2.2.2]
      refine .inr (.inr (.inr ⟨by omega, by omega, ?_⟩))
      rw [decide_eq_false (by omega)]
    · refine .inl ⟨by omega, Nat.zero_mod k, fun q => ?_⟩
      rw [bM_0]
      exact BI.busy (j := 0) (by omega) (by omega) hk hk2 25 (by rw [Nat.zero_mod]; rfl)
  · refine .inr ⟨bM_s _ _ _, ?_⟩
    by_cases ht : j = t
    · refine .inr (.inl ⟨ht, fun q => ?_⟩)
      rw [bE_eq, (bE_all c true).2.2.2]
      refine .inr (.inr (.inr ⟨by omega, by omega, ?_⟩))
      rw [decide_eq_true (by omega)]
    · by_cases hm : j % k = 0
      · refine .inl ⟨by omega, hm, fun q => ?_⟩
        rw [bM_sib]
        exact BI.busy (by omega) (by omega) hk hk2 25 (by rw [hm]; rfl)
      · refine .inr (.inr ⟨fun e => hm e.1, ht, ?_⟩)
        refine BI.busy (by omega) (by omega) hk hk2 _ ?_
        obtain ⟨i, rfl⟩ : ∃ i, j = i + 1 := ⟨j - 1, by omega⟩
        have hn := next_mod2 i k hk
        rw [show i + 1 - 1 = i from rfl]
        split at hn
        · exact absurd hn hm
        · rw [hn]; omega
  · exact .inl ⟨h1, rfl⟩
  · refine .inr ⟨(bE_all c _).1, .inr (.inr ⟨fun e => by omega, by omega, ?_⟩)⟩
    rw [(bE_all c _).2.2.2]
    exact .inr (.inr (.inr ⟨by omega, h2, rfl⟩))
theorem BI.last {c : Bool} {k t : Nat} {x : St} (h : BI c k t 60 x) : t ≤ 29 ∧ x = bE c (decide (0 < t)) := by
  rcases h with ⟨h, -⟩ | ⟨-, -, h, -⟩ | ⟨h, -⟩ | ⟨-, h, e⟩
  · omega
  · omega
  · omega
  · exact ⟨h, e⟩

set_option maxRecDepth 100000 in
set_option maxHeartbeats 4000000 in
theorem busy_walk (c : Bool) (ev an : Int) (w : World) (n0 : 0 ≤ ev) (n1 : ev ≤ 255) (l0 : 0 ≤ an) (l1 : an ≤ 255) : Calls Tryz.prog 7 #[.bool c, .int .u8 ev, .int .u8 an] w fun e w' => e = .returned (.bool true) ∧ Below w.heap.size w w' := by
  have haw := awake17_any w
  have hnm : ev.tmod 20 = ev % 20 := Int.tmod_eq_emod_of_nonneg n0
  obtain ⟨q, hq⟩ : ∃ q : Nat, ev % 20 = (q : Int) := ⟨(ev % 20).toNat, by omega⟩
  have hq20 : q < 20 := by omega
  rw [hq] at hnm
  have hlm : an.tmod 60 = an % 60 := Int.tmod_eq_emod_of_nonneg l0
  obtain ⟨t, ht⟩ : ∃ t : Nat, an % 60 = (t : Int) := ⟨(an % 60).toNat, by omega⟩
  have ht60 : t < 60 := by omega
  rw [ht] at hlm
  clear hq ht
  go_enter Tryz.func7, Tryz.ntmps7
  go_wp2_with fail
  refine haw.mono ?_
  rintro e w1 ⟨rfl, hB1⟩
  have hsv := serving_any c w1
  have HB1 : Hid (Below w.heap.size w w1) := hB1
  clear haw hB1
  go_wp2_with fail
  refine hsv.mono ?_
  rintro e w2 ⟨P, rfl, hcy, hPB, hA⟩
  have HA2 : Hid (LA w P 900 (svC c) noK w2) := hA.base HB1.out
  clear hsv hcy hPB hA HB1
  obtain ⟨W3, hW3, hB3, hr3, hs3, kc3⟩ := text3 w2 97 98 99
  have hor := LA.order (k := 898) (HA2.out.keep hB3) 5 (some ⟨w2.heap.size, 0, none⟩) 3 3 [97, 98, 99] rfl (by omega) hr3 (by decide)
  clear HA2 hB3 hr3 hs3
  go_wp2_with fail
  rw [← hW3]
  refine hor.mono ?_
  rintro e w4 ⟨rfl, hA⟩
  have hnx := LA.next (LA.room hA (bS_room c).2.1)
  clear hor kc3 hW3 hA
  go_wp2_with fail
  refine hnx.mono ?_
  rintro e w5 ⟨⟨a', b', c', d', ao', n', cap', rfl⟩, hA⟩
  have HA5 : Hid (∃ x, BI c (q + 1) t 0 x ∧ LA w P 900 x noK w5) := ⟨bS c, .inl ⟨rfl, rfl⟩, LA.room hA (bS_room c).2.2⟩
  clear hnx hA
  go_wp2_with fail
  go_loopw [11] (fun i wr => ∃ j : Nat, j ≤ 60 ∧ i = .int .i64 j ∧ Hid (∃ x, BI c (q + 1) t j x ∧ LA w P 900 x noK wr)) (fun i _ => 60 - (intOf i).toNat)
  case atStart => exact ⟨0, by omega, rfl, HA5⟩
  case round =>
    clear HA5
    obtain ⟨j, hj, rfl, HA⟩ := hrel
    by_cases hl : j < 60
    · have hd60 : decide ((j : Int) < 60) = true := by rw [decide_eq_true_iff]; omega
      obtain ⟨x, hx, hA⟩ := HA.out
      clear HA
      rcases hx.step hl (by omega) (by omega) with ⟨ht30, rfl⟩ | ⟨hs4, hways⟩
      · obtain ⟨o1, o2, -⟩ := bO_all c
        have HAX : Hid (LA w P 900 (bO c) noK wr) := hA
        have cx := hA.all.1
        rw [o1] at cx
        have t0 : ((t : Int) == 0) = false := by rw [beq_eq_false_iff_ne]; omega
        have t30 : decide ((t : Int) < 30) = false := by rw [decide_eq_false_iff_not]; omega
        clear hx hA
        have hto := LA.told HAX.out
        rw [o2] at hto
        clear HAX o2
        go_wp2_with fail
        refine hto.mono ?_
        rintro e w8 ⟨v, rfl, hA⟩
        obtain ⟨ao, cap, rfl, hcell⟩ := hA.read
        obtain ⟨g, rfl, hc⟩ := hcell 0 _ rfl
        have d0 : w8.cell? ⟨g, 0, none⟩ = some (.int .u8 6) := by simpa [tdC] using hc 0 (by omega)
        have d3 : w8.cell? ⟨g, 3, none⟩ = some (.int .u8 2) := by simpa [tdC] using hA.tcell 1 _ rfl 0 (by omega)
        have d4 : w8.cell? ⟨g, 4, none⟩ = some (.int .u8 3) := by simpa [tdC] using hA.tcell 1 _ rfl 1 (by omega)
        have c0 := hA.all.1
        rw [took_s, o1] at c0
        have HB8 : Hid (Below w.heap.size w w8) := hA.below
        clear hto hA hcell o1 hc
        go_wp2_with fail
        go_loopw [10, 14] (fun jam i wr => (i = .int .i64 0 ∧ jam = .int .i64 0 ∨ i = .int .i64 1 ∧ jam = .int .i64 1 ∨ i = .int .i64 2 ∧ jam = .int .i64 1) ∧ wr = w8) (fun _ i _ => (2 - intOf i).toNat)
        case atStart => exact ⟨.inl ⟨rfl, rfl⟩, rfl⟩
        case round =>
          obtain ⟨⟨rfl, rfl⟩ | ⟨rfl, rfl⟩ | ⟨rfl, rfl⟩, rfl⟩ := hrel
          · go_wp2_with fail
            go_roundw
            case rel => exact ⟨.inr (.inl ⟨rfl, rfl⟩), by first | rfl | trivial⟩
            case measure => simp [intOf]
          · go_wp2_with fail
            go_roundw
            case rel => exact ⟨.inr (.inr ⟨rfl, rfl⟩), by first | rfl | trivial⟩
            case measure => simp [intOf]
          · go_wp2
            go_ret
            exact ⟨rfl, HB8.out⟩
      · have c0 := hA.all.1
        rw [hs4] at c0
        obtain ⟨y, hy⟩ : ∃ y : Int, ((j % (q + 1) : Nat) : Int) = y := ⟨_, rfl⟩
        have htm : (j : Int).tmod (1 + (q : Int)) = y := by
          rw [← hy, show (1 : Int) + (q : Int) = ((q + 1 : Nat) : Int) by omega, Int.tmod_eq_emod_of_nonneg (by omega)]
          omega
        have hne : ¬ ((1 : Int) + (q : Int) = 0) := by omega
        clear hs4 hx
        rcases hways with ⟨hjt, hm, hn⟩ | ⟨hjt, hn⟩ | ⟨hm, hjt, hn⟩
        · obtain rfl : y = 0 := by omega
          have hlt : decide ((j : Int) < (t : Int)) = true := by rw [decide_eq_true_iff]; omega
          have hlt' : decide (j < t) = true := by rw [decide_eq_true_iff]; omega
          have heq : ((j : Int) == (t : Int)) = false := by rw [beq_eq_false_iff_ne]; omega
          have HN : Hid (∀ q_1, BI c (q + 1) t (j + 1) ((x.hear 127 127 1 5 true true q_1).tick)) := hn
          have HA1 : Hid (LA w P 900 x noK wr) := hA
          have hlk := link_any 5 wr
          clear hn hA hm hjt hy
          go_wp2_with fail
          refine hlk.mono ?_
          rintro e w6 ⟨rfl, hB⟩
          have hhe := LA.hear0 (k := 890) (HA1.out.keep hB) 127 127 1 5 true true false (by decide) (by decide)
          clear hlk hB HA1
          go_wp2_with fail
          refine hhe.mono ?_
          rintro e w7 ⟨rfl, q2, hA⟩
          have HN2 : Hid (BI c (q + 1) t (j + 1) ((x.hear 127 127 1 5 true true q2).tick)) := HN.out q2
          have hti := LA.tick (k := 874) hA
          clear hhe hA HN
          go_wp2_with fail
          refine hti.mono ?_
          rintro e w8 ⟨rfl, hA⟩
          have HA8 : Hid (∃ x, BI c (q + 1) t (j + 1) x ∧ LA w P 900 x noK w8) := ⟨_, HN2.out, LA.room hA HN2.out.room⟩
          clear hti hA HN2
          go_wp2_with fail
          go_roundw
          case rel => exact ⟨j + 1, by omega, by go_num, HA8⟩
          case measure => simp [intOf]; omega
        · have hlt : decide ((j : Int) < (t : Int)) = false := by rw [decide_eq_false_iff_not]; omega
          have hlt' : decide (j < t) = false := by rw [decide_eq_false_iff_not]; omega
          have heq : ((j : Int) == (t : Int)) = true := by rw [beq_iff_eq]; omega
          have HN : Hid (∀ q_1, BI c (q + 1) t (j + 1) ((x.hear 0 127 0 0 true true q_1).tick)) := hn
          have HA1 : Hid (LA w P 900 x noK wr) := hA
          have hfi := lfill_any wr
          obtain ⟨bz, hz⟩ : ∃ bz, (y == 0) = bz := ⟨_, rfl⟩
          clear hn hA hjt hy
          cases bz
          case' true => rw [beq_iff_eq] at hz; subst hz
          all_goals
            go_wp2_with fail
            refine hfi.mono ?_
            rintro e w3 ⟨rfl, hB3⟩
            have hA3 := HA1.out.keep hB3
            obtain ⟨W4, hst4, hB4, hh4⟩ := kept_any w3 #[.int .u8 127, .int .u8 127, .bool true, .bool true, .int .u8 0, .int .u8 0, .bool false, .slice none 0 0] rfl (by simp [Value.oneCell'])
            have hA4 := hA3.box hB4 hh4
            have hA5 : LA w P 900 x (andK noK (Box w3.heap.size #[.int .u8 0, .int .u8 127, .bool true, .bool true, .int .u8 0, .int .u8 0, .bool false, .slice none 0 0])) (W4.setCell ⟨w3.heap.size, 0, none⟩ (.int .u8 0)) := hA4.put 0 (.int .u8 0) hA3.below.size stays_no (fun _ _ => trivial)
            have hlu := (ld_unit hA5.boxed rfl).1
            have u0 := (unit_cells hh4).1.1
            have z0 := (unit_cells hh4).2 0
            have hhe := LA.hear0 (k := 890) hA5 0 127 0 0 true true false (by omega) (by omega)
            clear hfi HA1 hB3 hA3 hB4 hh4 hA4 hA5
            go_upto_region 17 with fail
            clear hst4
            go_wp2_with fail
            refine hhe.mono ?_
            rintro e w7 ⟨rfl, q2, hA⟩
            have HN2 : Hid (BI c (q + 1) t (j + 1) ((x.hear 0 127 0 0 true true q2).tick)) := HN.out q2
            have hti := LA.tick (k := 874) hA
            clear hhe hlu u0 z0 hA HN
            generalize W4.heap.size = g4 at *
            generalize w3.heap.size = g3 at *
            go_wp2_with fail
            refine hti.mono ?_
            rintro e w8 ⟨rfl, hA⟩
            have HA8 : Hid (∃ x, BI c (q + 1) t (j + 1) x ∧ LA w P 900 x noK w8) := ⟨_, HN2.out, (LA.room hA HN2.out.room).no⟩
            clear hti hA HN2
            go_wp2_with fail
            go_roundw
            case rel => exact ⟨j + 1, by omega, by go_num, HA8⟩
            case measure => simp [intOf]; omega
        · have heq : ((j : Int) == (t : Int)) = false := by rw [beq_eq_false_iff_ne]; omega
          have HN : Hid (BI c (q + 1) t (j + 1) x.tick) := hn
          have hti := LA.tick (k := 874) (hA.mono (by omega))
          obtain ⟨bz, hz⟩ : ∃ bz, (y == 0) = bz := ⟨_, rfl⟩
          have hlt : bz = true → decide ((j : Int) < (t : Int)) = false ∧ decide (j < t) = false := fun e => by
            rw [e, beq_iff_eq] at hz
            rw [decide_eq_false_iff_not, decide_eq_false_iff_not]
            omega
          clear hn hA hjt hm hy
          cases bz
          · clear hlt
            go_wp2_with fail
            refine hti.mono ?_
            rintro e w8 ⟨rfl, hA⟩
            have HA8 : Hid (∃ x, BI c (q + 1) t (j + 1) x ∧ LA w P 900 x noK w8) := ⟨_, HN.out, LA.room hA HN.out.room⟩
            clear hti hA HN
            go_wp2_with fail
            go_roundw
            case rel => exact ⟨j + 1, by omega, by go_num, HA8⟩
            case measure => simp [intOf]; omega
          · obtain ⟨hlt, hlt'⟩ := hlt rfl
            rw [beq_iff_eq] at hz
            subst hz
            go_wp2_with fail
            refine hti.mono ?_
            rintro e w8 ⟨rfl, hA⟩
            have HA8 : Hid (∃ x, BI c (q + 1) t (j + 1) x ∧ LA w P 900 x noK w8) := ⟨_, HN.out, LA.room hA HN.out.room⟩
            clear hti hA HN
            go_wp2_with fail
            go_roundw
            case rel => exact ⟨j + 1, by omega, by go_num, HA8⟩
            case measure => simp [intOf]; omega
    · have hd60 : decide ((j : Int) < 60) = false := by rw [decide_eq_false_iff_not]; omega
      have hj60 : j = 60 := by omega
      obtain ⟨x, hx, hA⟩ := HA.out
      rw [hj60] at hx
      obtain ⟨ht29, rfl⟩ := hx.last
      clear HA hx hj60 hl hj
      obtain ⟨o1, o2, -, -⟩ := bE_all c (decide (0 < t))
      by_cases ht0 : t = 0
      · rw [if_neg (by rw [decide_eq_true_iff]; omega)] at o2
        have t0 : ((t : Int) == 0) = true := by rw [ht0]; rfl
        generalize bE c (decide (0 < t)) = X at *
        have HAX : Hid (LA w P 900 X noK wr) := hA
        clear hA ht0 ht29
        have hto := LA.told HAX.out
        rw [o2] at hto
        clear HAX o2
        go_wp2_with fail
        refine hto.mono ?_
        rintro e w8 ⟨v, rfl, hA⟩
        obtain ⟨ao, cap, rfl, hcell⟩ := hA.read
        have c0 := hA.all.1
        rw [took_s, o1] at c0
        have HB8 : Hid (Below w.heap.size w w8) := hA.below
        clear hto hA hcell o1
        go_wp2_with fail
        go_loopw [10, 14] (fun jam i wr => jam = .int .i64 0 ∧ i = .int .i64 0 ∧ wr = w8) (fun _ _ _ => 0)
        case atStart => exact ⟨rfl, rfl, rfl⟩
        case round =>
          obtain ⟨rfl, rfl, rfl⟩ := hrel
          go_wp2
          go_ret
          exact ⟨rfl, HB8.out⟩
      · rw [if_pos (by rw [decide_eq_true_iff]; omega)] at o2
        have t0 : ((t : Int) == 0) = false := by rw [beq_eq_false_iff_ne]; omega
        have t30 : decide ((t : Int) < 30) = true := by rw [decide_eq_true_iff]; omega
        generalize bE c (decide (0 < t)) = X at *
        have HAX : Hid (LA w P 900 X noK wr) := hA
        clear hA ht0 ht29
        have hto := LA.told HAX.out
        rw [o2] at hto
        clear HAX o2
        go_wp2_with fail
        refine hto.mono ?_
        rintro e w8 ⟨v, rfl, hA⟩
        obtain ⟨ao, cap, rfl, hcell⟩ := hA.read
        obtain ⟨g, rfl, hc⟩ := hcell 0 _ rfl
        have d0 : w8.cell? ⟨g, 0, none⟩ = some (.int .u8 6) := by simpa [tdC] using hc 0 (by omega)
        have d3 : w8.cell? ⟨g, 3, none⟩ = some (.int .u8 7) := by simpa [tdC] using hA.tcell 1 _ rfl 0 (by omega)
        have c0 := hA.all.1
        rw [took_s, o1] at c0
        have HB8 : Hid (Below w.heap.size w w8) := hA.below
        clear hto hA hcell o1 hc
        go_wp2_with fail
        go_loopw [10, 14] (fun jam i wr => (i = .int .i64 0 ∧ jam = .int .i64 0 ∨ i = .int .i64 1 ∧ jam = .int .i64 1 ∨ i = .int .i64 2 ∧ jam = .int .i64 1) ∧ wr = w8) (fun _ i _ => (2 - intOf i).toNat)
        case atStart => exact ⟨.inl ⟨rfl, rfl⟩, rfl⟩
        case round =>
          obtain ⟨⟨rfl, rfl⟩ | ⟨rfl, rfl⟩ | ⟨rfl, rfl⟩, rfl⟩ := hrel
          · go_wp2_with fail
            go_roundw
            case rel => exact ⟨.inr (.inl ⟨rfl, rfl⟩), by first | rfl | trivial⟩
            case measure => simp [intOf]
          · go_wp2_with fail
            go_roundw
            case rel => exact ⟨.inr (.inr ⟨rfl, rfl⟩), by first | rfl | trivial⟩
            case measure => simp [intOf]
          · go_wp2
            go_ret
            exact ⟨rfl, HB8.out⟩
end Go.Proofs.YtldjglmelbkngaaGreat.Tape
