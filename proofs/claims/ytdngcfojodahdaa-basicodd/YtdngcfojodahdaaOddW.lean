/- A slice of bools that came in, opened; BasicOdd's walk. -/
import Derived.Test.YtdngcfojodahdaaBasic7
import Derived.Deep.Grids
namespace Go.Proofs.Ytdngcfojodahdaa.Tape
open Go.ChangeShapes Go.WideShapes Go.ChangeAt Go.RowKit Go.Deep
set_option linter.unusedVariables false

/-- What a law is told of a slice of bools that came in. -/
def Bools (w : World) (a : Option Addr) (len : Nat) : Prop := ∃ bs : List Bool, bs.length = len ∧ len ≤ maxLen ∧ Reads w a (bs.map .bool)

theorem cells4 : Try.prog.cellsOf 4 = 1 := by kernel_rfl

theorem bools_open {H : Type} {enc : TypeId × Value → H} {W : World} {fuel : Nat} {a : Option Addr} {len cap : Nat} {x : DataW H × List MemPlace}
    (h : DataW.trod enc Try.prog W 0 (fun _ => true) true fuel 22 [.slice a len cap] = some x) : Bools W a len := by
  rcases open_bools Try.underlying22 Try.underlying4 cells4 h with ⟨hcs, _⟩ | ⟨b, l, c, B, hcs, _, hl, hm, -, hall⟩
  · simp only [List.cons.injEq, Value.slice.injEq, and_true] at hcs
    obtain ⟨rfl, rfl, rfl⟩ := hcs
    exact ⟨[], rfl, Nat.zero_le _, Reads.nil _ _⟩
  · simp only [List.cons.injEq, Value.slice.injEq, and_true] at hcs
    obtain ⟨rfl, rfl, rfl⟩ := hcs
    refine ⟨(List.range len).map B, by simp, Nat.le_trans hl hm, fun k v hk => ?_⟩
    have hlt : k < len := by
      have := (List.getElem?_eq_some_iff.1 hk).1
      simpa using this
    have hc := hall k (by omega)
    obtain ⟨bb, off, spot⟩ := b
    have hspot : spot = none := by
      have := hall 0 (by omega)
      simpa [Addr.add] using World.cell?_spot this
    subst hspot
    rw [Addr.add_lit] at hc
    refine ⟨bb, off, rfl, ?_⟩
    rw [hc]
    simp [hlt] at hk
    rw [← hk]

/-- The two ahead. -/
def prev (bs : List Bool) (j k : Nat) : Bool := if j ≤ k then bs.getD (k - j) false else false

set_option maxRecDepth 100000 in
set_option maxHeartbeats 1000000 in
theorem odd_walk (a : Option Addr) (len cap : Nat) (w : World) (h : Bools w a len) : Calls Try.prog 3 #[.slice a len cap] w fun e w' => e = .returned (.bool true) ∧ Below w.heap.size w w' := by
  obtain ⟨bs, hbl, hlm, hrd⟩ := h
  unfold maxLen at hlm
  by_cases hlong : 100 < len
  · go_enter Try.func3, Try.ntmps3
    go_wp2_with fail
    refine (awake11_any _).mono ?_
    rintro e w1 ⟨rfl, hB1⟩
    go_wp2_with fail
    refine (awake11_any _).mono ?_
    rintro e w2 ⟨rfl, hB2⟩
    go_wp2
    go_ret
    exact ⟨rfl, hB1.trans (below_le hB2 hB1.size)⟩
  · go_enter Try.func3, Try.ntmps3
    go_wp2_with fail
    refine (awake11_any _).mono ?_
    rintro e w1 ⟨rfl, hB1⟩
    have hs1 := hB1.size
    have hh := heap_alloc_new w1 (.cells #[.bool false, .bool false] 25)
    have hBB : Below w.heap.size w (w1.alloc (.cells #[.bool false, .bool false] 25)) := hB1.alloc hs1 _
    have HRD : Hid (Reads w a (bs.map .bool)) := hrd
    have HBL : Hid (bs.length = len) := hbl
    clear hrd hbl hB1
    go_wp2_with fail
    go_loopw [4] (fun i wr => ∃ k : Nat, k ≤ len ∧ i = .int .i64 k ∧ wr.heap[w1.heap.size]? = some (.cells #[.bool (prev bs 1 k), .bool (prev bs 2 k)] 25 (0, 0)) ∧ Below w.heap.size w wr) (fun i _ => len - (intOf i).toNat)
    case atStart => exact ⟨0, by omega, rfl, by simpa [prev] using hh, hBB⟩
    case round =>
      clear hh hBB
      obtain ⟨k, hk, rfl, hcell, hB⟩ := hrel
      by_cases hlt : k < len
      · have hkb : k < bs.length := by have := HBL.out; omega
        obtain ⟨g, off, rfl, hck⟩ := (HRD.out.below (Nat.le_refl _) hB).bool k hkb
        have hc := fun j => Lib.cell_of_heap (b := w1.heap.size) hcell j
        have c0 : wr.cell? ⟨w1.heap.size, 0, none⟩ = some (.bool (prev bs 1 k)) := by rw [Lib.cell_of_heap hcell]; rfl
        have c1 : wr.cell? ⟨w1.heap.size, 1, none⟩ = some (.bool (prev bs 2 k)) := by rw [Lib.cell_of_heap hcell]; rfl
        have hz := Lib.frozen_of_heap hcell
        have hsee := see_any w1.heap.size 0 bs[k] (prev bs 1 k) (prev bs 2 k) wr c0 (hz 0) c1 (hz 1)
        have hn1 : prev bs 1 (k + 1) = bs[k] := by simp [prev, hkb]
        have hn2 : prev bs 2 (k + 1) = prev bs 1 k := by
          unfold prev
          by_cases h1 : 1 ≤ k
          · rw [if_pos (by omega), if_pos h1, show k + 1 - 2 = k - 1 by omega]
          · rw [if_neg (by omega), if_neg h1]
        have hNC := row_set (row_set (cs := [.bool (prev bs 1 k), .bool (prev bs 2 k)]) hcell 0 (.bool bs[k])) 1 (.bool (prev bs 1 k))
        simp only [Nat.zero_add] at hsee
        have hNB : Below w.heap.size w ((wr.setCell ⟨w1.heap.size, 0, none⟩ (.bool bs[k])).setCell ⟨w1.heap.size, 1, none⟩ (.bool (prev bs 1 k))) := gb_below ((gb_set _).trans (gb_set _)) hB hs1 (by have := hB.size; omega)
        have HN : Hid (_ ∧ _) := ⟨hNC, hNB⟩
        have hcm : ∀ j, j < k → wr.cell? ⟨g, off + j, none⟩ = some (.bool (bs.getD j false)) := fun j hj => by
          obtain ⟨g', off', e, hc'⟩ := (HRD.out.below (Nat.le_refl _) hB).bool j (by omega)
          simp only [Option.some.injEq, Addr.mk.injEq, and_true] at e
          obtain ⟨rfl, rfl⟩ := e
          rw [hc']
          simp [List.getD, show j < bs.length by omega]
        obtain ⟨c, hcc⟩ : ∃ c, c = bs[k] := ⟨_, rfl⟩
        obtain ⟨p1, hp1⟩ : ∃ p1, p1 = prev bs 1 k := ⟨_, rfl⟩
        obtain ⟨p2, hp2⟩ : ∃ p2, p2 = prev bs 2 k := ⟨_, rfl⟩
        rw [← hcc] at hsee HN hck hn1
        rw [← hp1] at c0 hsee HN hn2
        rw [← hp2] at c1 hsee HN
        have E1 : Hid (prev bs 1 (k + 1) = c) := hn1
        have E2 : Hid (prev bs 2 (k + 1) = p1) := hn2
        clear hc hn1 hn2 hNC hNB hz hcell hB hcc
        obtain ⟨W3, hW3⟩ : ∃ W3, W3 = (wr.setCell ⟨w1.heap.size, 0, none⟩ (.bool c)).setCell ⟨w1.heap.size, 1, none⟩ (.bool p1) := ⟨_, rfl⟩
        rw [← hW3] at hsee HN
        clear hW3
        by_cases h0 : k = 0
        · have e1 : p1 = false := by rw [hp1, h0]; rfl
          have e2 : p2 = false := by rw [hp2, h0]; rfl
          subst e1 e2
          have g0 : (0 < k) = False := eq_false (by omega)
          have g1 : ((1 : Int) < k) = False := eq_false (by omega)
          have H0 : Hid (k = 0) := h0
          clear hcm hp1 hp2 h0
          cases c
          all_goals
            go_wp2_with (go_at_call 8; refine hsee.mono ?_; rintro e w3 ⟨rfl, hw3⟩; obtain rfl := hw3.symm; clear hw3)
            go_roundw
            case rel =>
              refine ⟨k + 1, by omega, by go_num, ?_, HN.out.2⟩
              rw [E1.out, E2.out]
              exact HN.out.1
            case measure => simp [intOf]; omega
        · by_cases h1 : k = 1
          · subst h1
            obtain rfl : p2 = false := hp2
            have hm0 := hcm 0 (by omega)
            have e0 : p1 = bs.getD 0 false := hp1
            rw [← e0, Nat.add_zero] at hm0
            clear hcm hp1 e0 h0
            cases c <;> cases p1
            all_goals
              go_wp2_with (go_at_call 8; refine hsee.mono ?_; rintro e w3 ⟨rfl, hw3⟩; obtain rfl := hw3.symm; clear hw3)
              go_roundw
              case rel =>
                refine ⟨1 + 1, by omega, by go_num, ?_, HN.out.2⟩
                rw [E1.out, E2.out]
                exact HN.out.1
              case measure => simp [intOf]; omega
          · obtain ⟨m, rfl⟩ : ∃ m, k = m + 2 := ⟨k - 2, by omega⟩
            have hm0 := hcm m (by omega)
            have hm1 := hcm (m + 1) (by omega)
            have e0 : p2 = bs.getD m false := by rw [hp2]; simp [prev]
            have e1 : p1 = bs.getD (m + 1) false := by rw [hp1]; simp [prev]
            rw [← e0] at hm0
            rw [← e1] at hm1
            clear hcm hp1 hp2 e0 e1 h0 h1
            cases c <;> cases p1 <;> cases p2
            all_goals
              go_wp2_with (go_at_call 8; refine hsee.mono ?_; rintro e w3 ⟨rfl, hw3⟩; obtain rfl := hw3.symm; clear hw3)
              go_roundw
              case rel =>
                refine ⟨(m + 2) + 1, by omega, by go_num, ?_, HN.out.2⟩
                rw [E1.out, E2.out]
                exact HN.out.1
              case measure => simp [intOf]; omega
      · have e1 : decide ((k : Int) < len) = false := decide_eq_false (by omega)
        go_wp2
        go_ret
        exact ⟨rfl, hB⟩
end Go.Proofs.Ytdngcfojodahdaa.Tape
