/- The contracts of the reference's Fails, of the bucket laws' awake and units. -/
import Derived.Test.YtjepgdpnhoolcaaLeak2
namespace Go.Proofs.Ytjepgdpnhoolcaa.Tape
open Go.ChangeShapes Go.WideShapes Go.ChangeAt Go.RowKit

theorem unit_cases (n s : Nat) (b : Bool) : (Lk.mk n s).unit b =
    if n = 0 then (if b then ⟨1, 0⟩ else ⟨0, s⟩)
    else if s + 1 = 256 then (if b then (if n = 1 then ⟨1, 0⟩ else ⟨n, 0⟩) else ⟨n - 1, 0⟩)
    else (if b then ⟨n + 1, s + 1⟩ else ⟨n, s + 1⟩) := by
  by_cases h0 : n = 0
  · subst h0
    cases b <;> rfl
  · by_cases h1 : s + 1 = 256
    · cases b
      · simp [Lk.unit, Lk.old, Lk.new, h0, h1]
      · by_cases h2 : n = 1
        · subst h2; simp [Lk.unit, Lk.old, Lk.new, h1]
        · have : n - 1 ≠ 0 := by omega
          simp [Lk.unit, Lk.old, Lk.new, h0, h1, h2, this]; omega
    · cases b <;> simp [Lk.unit, Lk.old, Lk.new, h0, h1]

set_option maxRecDepth 100000 in
set_option maxHeartbeats 1000000 in
theorem rfails_any (ao : Option Addr) (n cap : Nat) (bs : List Bool) (F : Int) (w : World) (hn : bs.length = n) (hl : n ≤ 1000000) (h : Reads w ao (bs.map .bool)) (hF : fails lk0 bs 0 = F) :
    Calls Try.prog 23 #[.slice ao n cap] w fun e w' => e = .returned (.int .i64 F) ∧ w' = w := by
  have HN : Hid (bs.length = n) := hn
  have HF : Hid (fails lk0 bs 0 = F) := hF
  clear hn hF
  go_enter Try.func23, Try.ntmps23
  go_wp2_with fail
  go_loop [3, 4, 5] (fun c q i => ∃ (k p s : Nat) (left : Int), k ≤ n ∧ i = .int .i64 k ∧ c = .int .i64 p ∧ q = .int .i64 left ∧ p ≤ 63 ∧ s ≤ 255 ∧ fails ⟨p, s⟩ (bs.drop k) k = F ∧ (p ≠ 0 → left = 256 - (s : Int)) ∧ 0 ≤ left ∧ left ≤ 256) (fun _ _ i => n - (intOf i).toNat)
  case atStart => exact ⟨0, 0, 0, 0, by omega, rfl, rfl, rfl, by omega, by omega, HF.out, by omega, by omega, by omega⟩
  case round =>
    obtain ⟨k, p, s, left, hk, rfl, rfl, rfl, hp, hs, hfl, hle, hl0, hl1⟩ := hrel
    by_cases hlt : k < n
    · have hkl : k < bs.length := by have := HN.out; omega
      obtain ⟨g, off, rfl, hc⟩ := h.bool k hkl
      rw [List.drop_eq_getElem_cons hkl] at hfl
      generalize bs[k] = b at hc hfl
      have HFL : Hid (fails ⟨p, s⟩ (b :: bs.drop (k + 1)) k = F) := hfl
      have huc := unit_cases p s b
      clear hfl
      by_cases h0 : p = 0
      · subst h0
        clear hle
        cases b
        · have HU : Hid ((Lk.mk 0 s).unit false = ⟨0, s⟩) := huc
          clear huc
          go_wp2
          go_round
          case rel => exact ⟨k + 1, 0, s, left, by omega, by go_num, rfl, rfl, by omega, by omega, by have := HFL.out; rw [fails, HU.out, if_neg (by simp)] at this; exact this, by omega, by omega, by omega⟩
          case measure => simp [intOf]; omega
        · have HU : Hid ((Lk.mk 0 s).unit true = ⟨1, 0⟩) := huc
          clear huc
          go_wp2
          go_round
          case rel => exact ⟨k + 1, 1, 0, 256, by omega, by go_num, rfl, rfl, by omega, by omega, by have := HFL.out; rw [fails, HU.out, if_neg (by simp)] at this; exact this, by omega, by omega, by omega⟩
          case measure => simp [intOf]; omega
      · have hle' := hle h0
        subst hle'
        clear hle
        have p0 : 0 < (p : Int) := by omega
        by_cases h1 : s = 255
        · subst h1
          cases b
          · obtain ⟨m, rfl⟩ : ∃ m, p = m + 1 := ⟨p - 1, by omega⟩
            have HU : Hid ((Lk.mk (m + 1) 255).unit false = ⟨m, 0⟩) := by show _ = _; rw [huc]; simp
            clear huc h0
            go_wp2
            go_round
            case rel => exact ⟨k + 1, m, 0, 256, by omega, by go_num, by go_num, rfl, by omega, by omega, by have := HFL.out; rw [fails, HU.out, if_neg (by simp; omega)] at this; exact this, by omega, by omega, by omega⟩
            case measure => simp [intOf]; omega
          · by_cases h2 : p = 1
            · subst h2
              have HU : Hid ((Lk.mk 1 255).unit true = ⟨1, 0⟩) := huc
              clear huc h0
              go_wp2
              go_round
              case rel => exact ⟨k + 1, 1, 0, 256, by omega, by go_num, by go_num, rfl, by omega, by omega, by have := HFL.out; rw [fails, HU.out, if_neg (by simp)] at this; exact this, by omega, by omega, by omega⟩
              case measure => simp [intOf]; omega
            · have HU : Hid ((Lk.mk p 255).unit true = ⟨p, 0⟩) := by show _ = _; rw [huc]; simp [h0, h2]
              clear huc
              go_wp2
              go_round
              case rel => exact ⟨k + 1, p, 0, 256, by omega, by go_num, by go_num, rfl, by omega, by omega, by have := HFL.out; rw [fails, HU.out, if_neg (by simp; omega)] at this; exact this, by omega, by omega, by omega⟩
              case measure => simp [intOf]; omega
        · have s0 : ¬ (256 - (s : Int) - 1 = 0) := by omega
          cases b
          · have HU : Hid ((Lk.mk p s).unit false = ⟨p, s + 1⟩) := by show _ = _; rw [huc]; simp [h0, h1]
            clear huc
            go_wp2
            go_round
            case rel => exact ⟨k + 1, p, s + 1, 256 - ((s + 1 : Nat) : Int), by omega, by go_num, by go_num, by go_num, by omega, by omega, by have := HFL.out; rw [fails, HU.out, if_neg (by simp; omega)] at this; exact this, by omega, by omega, by omega⟩
            case measure => simp [intOf]; omega
          · have HU : Hid ((Lk.mk p s).unit true = ⟨p + 1, s + 1⟩) := by show _ = _; rw [huc]; simp [h0, h1]
            clear huc
            by_cases h3 : p = 63
            · subst h3
              go_wp2
              go_ret
              exact ⟨ret_int (by have := HFL.out; rw [fails, HU.out, if_pos (by simp)] at this; exact this), rfl⟩
            · go_wp2
              go_round
              case rel => exact ⟨k + 1, p + 1, s + 1, 256 - ((s + 1 : Nat) : Int), by omega, by go_num, by go_num, by go_num, by omega, by omega, by have := HFL.out; rw [fails, HU.out, if_neg (by simp; omega)] at this; exact this, by omega, by omega, by omega⟩
              case measure => simp [intOf]; omega
    · obtain rfl : k = n := by omega
      have HFL : Hid (-1 = F) := by
        rw [List.drop_eq_nil_of_le (by have := HN.out; omega)] at hfl
        exact hfl
      clear hfl
      go_wp2
      go_ret
      exact ⟨ret_int HFL.out, rfl⟩
end Go.Proofs.Ytjepgdpnhoolcaa.Tape
