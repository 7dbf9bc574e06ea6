/- Units of a zero Leak; the contract of Units. -/
import Derived.Test.YtjepgdpnhoolcaaLeak1
namespace Go.Proofs.Ytjepgdpnhoolcaa.Tape
open Go.ChangeShapes Go.WideShapes Go.ChangeAt Go.RowKit

/-- At which place a Leak fails, from place k on; -1: it does not. -/
def fails (l : Lk) : List Bool → Nat → Int
  | [], _ => -1
  | b :: bs, k => if 64 ≤ (l.unit b).n then k else fails (l.unit b) bs (k + 1)

theorem unit_s (l : Lk) (b : Bool) (h : l.s ≤ 255) : (l.unit b).s ≤ 255 := by
  obtain ⟨n, s⟩ := l
  simp only [Lk.unit, Lk.new, Lk.old] at *
  repeat' split
  all_goals simp_all
  all_goals omega

theorem unit_n (l : Lk) (b : Bool) : (l.unit b).n ≤ l.n + 1 := by
  obtain ⟨n, s⟩ := l
  simp only [Lk.unit, Lk.new, Lk.old] at *
  repeat' split
  all_goals simp_all
  all_goals omega

theorem leak_cells {w : World} {b : Nat} {x y : Value} {t : TypeId} (h : w.heap[b]? = some (.cells #[x, y] t (0, 0))) :
    w.cell? ⟨b, 0, none⟩ = some x ∧ w.cell? ⟨b, 1, none⟩ = some y ∧ w.frozen? ⟨b, 0, none⟩ = false ∧ w.frozen? ⟨b, 1, none⟩ = false := by
  refine ⟨?_, ?_, Lib.frozen_of_heap h 0, Lib.frozen_of_heap h 1⟩ <;> rw [Lib.cell_of_heap h] <;> rfl

theorem leak_put {w : World} {b : Nat} {x y : Value} {t : TypeId} (h : w.heap[b]? = some (.cells #[x, y] t (0, 0))) (x' y' : Value) : ((w.setCell ⟨b, 0, none⟩ x').setCell ⟨b, 1, none⟩ y').heap[b]? = some (.cells #[x', y'] t (0, 0)) :=
  row_set (cs := [x', y]) (row_set (cs := [x, y]) h 0 x') 1 y'

theorem put_below {w0 w : World} {base b : Nat} (h : Below base w0 w) (hB : base ≤ b) (x y : Value) : Below base w0 ((w.setCell ⟨b, 0, none⟩ x).setCell ⟨b, 1, none⟩ y) := (h.setCell hB x).setCell hB y

theorem block_keep {w w' : World} {b : Nat} {x : Obj} (h : w.heap[b]? = some x) (hb : Below w.heap.size w w') : w'.heap[b]? = some x := (hb.block b (heap_lt h)).trans h

set_option maxRecDepth 100000 in
set_option maxHeartbeats 1000000 in
theorem units_any (ao : Option Addr) (n cap : Nat) (bs : List Bool) (F : Int) (w : World) (hn : bs.length = n) (hl : n ≤ 1000000) (h : Reads w ao (bs.map .bool)) (hF : fails lk0 bs 0 = F) :
    Calls Try.prog 22 #[.slice ao n cap] w fun e w' => e = .returned (.int .i64 F) ∧ Below w.heap.size w w' := by
  have HN : Hid (bs.length = n) := hn
  have HF : Hid (fails lk0 bs 0 = F) := hF
  clear hn hF
  go_enter Try.func22, Try.ntmps22
  go_wp2_with fail
  go_loopw [10] (fun i wr => ∃ (k : Nat) (l : Lk), k ≤ n ∧ i = .int .i64 k ∧ l.n ≤ 63 ∧ l.s ≤ 255 ∧ fails l (bs.drop k) k = F ∧ wr.heap[w.heap.size]? = some (.cells #[.int .i64 l.n, .int .i64 l.s] 44 (0, 0)) ∧ Below w.heap.size w wr) (fun i _ => n - (intOf i).toNat)
  case atStart => exact ⟨0, lk0, by omega, rfl, by decide, by decide, HF.out, heap_alloc_new w _, (Below.refl _ _).alloc (Nat.le_refl _) _⟩
  case round =>
    obtain ⟨k, l, hk, rfl, hln, hls, hfl, hbox, hB⟩ := hrel
    by_cases hlt : k < n
    · have hkl : k < bs.length := by have := HN.out; omega
      obtain ⟨g, off, rfl, hc⟩ := (h.below (Nat.le_refl _) hB).bool k hkl
      rw [List.drop_eq_getElem_cons hkl] at hfl
      generalize bs[k] = b at hc hfl
      obtain ⟨p, s⟩ := l
      have HFL : Hid (fails ⟨p, s⟩ (b :: bs.drop (k + 1)) k = F) := hfl
      obtain ⟨c0, c1, f0, f1⟩ := leak_cells hbox
      obtain ⟨l', hl'⟩ : ∃ l', (Lk.mk p s).unit b = l' := ⟨_, rfl⟩
      have hu := unit_any p s b l' wr hl' (by simp at hln; omega) hls
      have hs' := unit_s ⟨p, s⟩ b hls
      have hn' := unit_n ⟨p, s⟩ b
      rw [hl'] at hs' hn'
      simp only at hln hls hn'
      have HL : Hid ((Lk.mk p s).unit b = l') := hl'
      clear hl' hfl
      go_wp2_with fail
      refine hu.mono ?_
      rintro e w2 ⟨rfl, hb2⟩
      have hbox2 := block_keep hbox hb2
      have hB2 := hB.trans (hb2.mono hB.size)
      have hbox3 := leak_put hbox2 (.int .i64 l'.n) (.int .i64 l'.s)
      have hB3 := put_below hB2 (Nat.le_refl _) (.int .i64 l'.n) (.int .i64 l'.s)
      clear c0 c1 f0 f1 hu
      obtain ⟨c0, c1, f0, f1⟩ := leak_cells hbox2
      clear hbox hb2 hB hc
      by_cases h64 : 64 ≤ l'.n
      · go_wp2
        go_ret
        refine ⟨ret_int ?_, hB3⟩
        have := HFL.out
        rw [fails, HL.out, if_pos h64] at this
        exact this
      · go_wp2
        go_roundw
        case rel => exact ⟨k + 1, l', by omega, by go_num, by omega, hs', by have := HFL.out; rw [fails, HL.out, if_neg h64] at this; exact this, hbox3, hB3⟩
        case measure => simp [intOf]; omega
    · obtain rfl : k = n := by omega
      have HFL : Hid (-1 = F) := by
        rw [List.drop_eq_nil_of_le (by have := HN.out; omega)] at hfl
        exact hfl
      clear hfl
      go_wp2
      go_ret
      exact ⟨ret_int HFL.out, hB⟩
end Go.Proofs.Ytjepgdpnhoolcaa.Tape
