/- The contract of tape's Parse. -/
import Derived.Test.YtokjieejnahfmaaTape6
import Derived.Lib.OthersKept
namespace Go.Proofs.Ytokjieejnahfmaa.Tape
open Go.ChangeShapes Go.WideShapes Go.ChangeAt Go.RowKit

/-- May the sign be? -/
def ok1 (n : Nat) : Bool := n == 48 || n == 49 || n == 32 || n == 95
/-- The bits among the signs. -/
def sel (l : List UInt8) : List Bool := l.filterMap fun c => if c.toNat = 48 then some false else if c.toNat = 49 then some true else none
def allOk (l : List UInt8) : Bool := l.all fun c => ok1 c.toNat
theorem sel_len (l : List UInt8) : (sel l).length ≤ l.length := List.length_filterMap_le _ _
theorem str_snoc (s : ByteArray) (k : Nat) (h : k < s.size) : s.data.toList.take (k + 1) = s.data.toList.take k ++ [s[k]] := by
  rw [List.take_succ_eq_append_getElem (by simpa using h)]; rfl
theorem sel_snoc (l : List UInt8) (c : UInt8) : sel (l ++ [c]) = sel l ++ (if c.toNat = 48 then [false] else if c.toNat = 49 then [true] else []) := by
  rw [sel, List.filterMap_append]
  congr 1
  simp only [List.filterMap_cons, List.filterMap_nil]
  by_cases h : c.toNat = 48
  · simp [h]
  · by_cases h' : c.toNat = 49 <;> simp [h, h']
theorem allOk_snoc (l : List UInt8) (c : UInt8) : allOk (l ++ [c]) = (allOk l && ok1 c.toNat) := by simp [allOk]
theorem allOk_bad (s : ByteArray) (k : Nat) (h : k < s.size) (hc : ok1 s[k].toNat = false) : allOk s.data.toList = false := by
  rw [allOk, List.all_eq_false]
  exact ⟨s[k], by rw [show s[k] = s.data.toList[k]'(by simpa using h) from rfl]; exact List.getElem_mem _, by simp [hc]⟩

theorem owns_iterAt {w : World} {base : Nat} {e : TypeId} {v : Value} {n : Nat} {vs : List Value} (h : w.ownsRow base e 1 v n vs) {k : Nat} {s : ByteArray} {pos : Nat} (hk : w.heap[k]? = some (.stringIter s pos)) (pos' : Nat) : (w.iterAt k s pos').ownsRow base e 1 v n vs := by
  refine ⟨h.1, ?_⟩
  rcases h.2 with h' | ⟨g, cap, cur, hv, hB, hg, rest⟩
  · exact .inl h'
  · refine .inr ⟨g, cap, cur, hv, hB, ?_, rest⟩
    rw [Lib.iterAt_other w k g s pos' (fun e => by subst e; rw [hk] at hg; cases hg)]
    exact hg

theorem iter_not_row {w : World} {base : Nat} {e : TypeId} {v : Value} {n : Nat} {vs : List Value} {k : Nat} {s : ByteArray} {pos : Nat} (hk : w.heap[k]? = some (.stringIter s pos)) (h : w.ownsRow base e 1 v n vs) : some k ≠ v.ownBlock := by
  rcases h.2 with ⟨rfl, _⟩ | ⟨g, cap, cur, rfl, _, hg, _⟩
  · simp [Value.ownBlock]
  · intro e'
    have : k = g := by simpa [Value.ownBlock] using e'
    subst this
    rw [hk] at hg
    cases hg

set_option maxRecDepth 100000 in
set_option maxHeartbeats 2000000 in
theorem parse_any (s : ByteArray) (w : World) (hs : s.size ≤ 1000000) :
    Calls Try.prog 18 #[.string s] w fun e w' => Below w.heap.size w w' ∧ ((allOk s.data.toList = true ∧ ∃ v, e = .returned (.tuple #[v, .int .i64 0]) ∧ w'.ownsRow w.heap.size 4 1 v (sel s.data.toList).length ((sel s.data.toList).map .bool)) ∨ (allOk s.data.toList = false ∧ e = .returned (.tuple #[.slice none 0 0, .int .i64 11]))) := by
  obtain ⟨i0, hi, hz0, hz1, hz2⟩ := info_parts info4
  go_enter Try.func18, Try.ntmps18
  go_wp2_with (at_make; refine wpList_make_own _ rfl _ _ 26 rfl w.heap.size 4 i0 (.bool false) 1 Try.underlying26 hi hz0 hz1 _ _ _ s.size rfl rfl (by omega) (by rw [hz2]; omega) (by unfold maxLen; omega) (Nat.le_refl _) ?_; intro w1 hown1 hgrow1)
  have hs1 : w.heap.size < w1.heap.size := (hown1.lt _ rfl).2
  have hb1 : Below w.heap.size w w1 := (Below.refl w.heap.size w).grown hgrow1 (Nat.le_refl _) (by simp)
  have hb2 : Below w.heap.size w (w1.iter s 0) := hb1.alloc (by omega) _
  have hit0 := World.iter_heap w1 s 0
  go_loopw [4] (fun v wr => ∃ pos : Nat, pos ≤ s.size ∧ wr.heap[w1.heap.size]? = some (.stringIter s pos) ∧ wr.ownsRow w.heap.size 4 1 v (sel (s.data.toList.take pos)).length ((sel (s.data.toList.take pos)).map .bool) ∧ allOk (s.data.toList.take pos) = true ∧ Below w.heap.size w wr) (fun _ wr => s.size - wr.iterPos w1.heap.size)
  case atStart => exact ⟨0, by omega, hit0, hown1.alloc _, rfl, hb2⟩
  case round =>
    clear hown1 hgrow1 hb1 hb2 hit0
    obtain ⟨pos, hpos, hit, hown, hok, hbl⟩ := hrel
    have hKs : w1.heap.size < wr.heap.size := (Array.getElem?_eq_some_iff.1 hit).1
    have hll : (sel (s.data.toList.take pos)).length ≤ pos := Nat.le_trans (sel_len _) (List.length_take_le _ _)
    have HOK : Hid (allOk (s.data.toList.take pos) = true) := hok
    have HIT : Hid (wr.heap[w1.heap.size]? = some (.stringIter s pos)) := hit
    clear hok
    by_cases hp : pos < s.size
    · have HSN : Hid (s.data.toList.take (pos + 1) = s.data.toList.take pos ++ [s[pos]]) := str_snoc s pos hp
      obtain ⟨c, hc⟩ : ∃ c : Nat, s[pos].toNat = c := ⟨_, rfl⟩
      have HC : Hid (s[pos].toNat = c) := hc
      by_cases ha : c < 128
      · have hnx : ∀ ty, (Instr.next (.pointer (some ⟨w1.heap.size, 0, none⟩)) true ty).run Try.prog wr = _ := fun ty => Lib.run_next_ascii_at wr w1.heap.size s pos ty hit hp (by rw [hc]; exact ha)
        rw [hc] at hnx
        have hown2 := owns_iterAt hown hit (pos + 1)
        have hit2 := Lib.iterAt_heap wr w1.heap.size s pos (pos + 1) hit
        have hbl2 := Lib.below_iterAt hbl (k := w1.heap.size) (by omega) s (pos + 1)
        have hKs2 : w1.heap.size < (wr.iterAt w1.heap.size s (pos + 1)).heap.size := by rw [Lib.iterAt_size]; exact hKs
        obtain ⟨w2, hw2⟩ : ∃ w2, wr.iterAt w1.heap.size s (pos + 1) = w2 := ⟨_, rfl⟩
        rw [hw2] at hown2 hit2 hbl2 hKs2
        simp only [hw2] at hnx
        clear hw2 hc hown hit hbl
        have hsz2 := hbl2.size
        have h5 : c = 48 ∨ c = 49 ∨ c = 32 ∨ c = 95 ∨ (c ≠ 48 ∧ c ≠ 49 ∧ c ≠ 32 ∧ c ≠ 95) := by omega
        rcases h5 with rfl | rfl | rfl | rfl | ⟨h1, h2, h3, h4⟩
        · go_wp2_with (at_builtin; refine wpList_append_own _ rfl _ _ 26 rfl w.heap.size 4 i0 (.bool false) 1 1 Try.underlying26 hi hz0 hz1 hz2 rfl (by decide) _ _ _ rfl (hown2.alloc _) ⟨w2.heap.size, 0, none⟩ 1 1 [.bool false] rfl rfl (cell_one_new _ _ _) (by simp [Value.oneCell']) (by unfold maxLen; omega) (by omega) (by simp; omega) ?_; intro v' w3 hown' hgrow _)
          have hgrow' : (w2.alloc (.cells #[.bool false] 4)).grownBy w3 u4.ownBlock := hgrow
          have hit3 : w3.heap[w1.heap.size]? = some (.stringIter s (pos + 1)) := by
            rw [hgrow'.block _ (by simp; omega) (iter_not_row hit2 hown2), Lib.alloc_old w2 _ _ (by omega)]
            exact hit2
          have hbl3 := (hbl2.alloc hsz2 (.cells #[.bool false] 4)).grown hgrow' (by simp; omega) (fun k hk => (hown2.lt k hk).1)
          go_roundw
          case rel => exact ⟨pos + 1, by omega, hit3, by rw [HSN.out, sel_snoc, HC.out]; simpa using hown', by rw [HSN.out, allOk_snoc, HC.out, HOK.out]; rfl, hbl3⟩
          case measure => simp only [World.iterPos, hit3, HIT.out]; omega
        · go_wp2_with (at_builtin; refine wpList_append_own _ rfl _ _ 26 rfl w.heap.size 4 i0 (.bool false) 1 1 Try.underlying26 hi hz0 hz1 hz2 rfl (by decide) _ _ _ rfl (hown2.alloc _) ⟨w2.heap.size, 0, none⟩ 1 1 [.bool true] rfl rfl (cell_one_new _ _ _) (by simp [Value.oneCell']) (by unfold maxLen; omega) (by omega) (by simp; omega) ?_; intro v' w3 hown' hgrow _)
          have hgrow' : (w2.alloc (.cells #[.bool true] 4)).grownBy w3 u4.ownBlock := hgrow
          have hit3 : w3.heap[w1.heap.size]? = some (.stringIter s (pos + 1)) := by
            rw [hgrow'.block _ (by simp; omega) (iter_not_row hit2 hown2), Lib.alloc_old w2 _ _ (by omega)]
            exact hit2
          have hbl3 := (hbl2.alloc hsz2 (.cells #[.bool true] 4)).grown hgrow' (by simp; omega) (fun k hk => (hown2.lt k hk).1)
          go_roundw
          case rel => exact ⟨pos + 1, by omega, hit3, by rw [HSN.out, sel_snoc, HC.out]; simpa using hown', by rw [HSN.out, allOk_snoc, HC.out, HOK.out]; rfl, hbl3⟩
          case measure => simp only [World.iterPos, hit3, HIT.out]; omega
        · go_wp2
          go_roundw
          case rel => exact ⟨pos + 1, by omega, hit2, by rw [HSN.out, sel_snoc, HC.out]; simpa using hown2, by rw [HSN.out, allOk_snoc, HC.out, HOK.out]; rfl, hbl2⟩
          case measure => simp only [World.iterPos, hit2, HIT.out]; omega
        · go_wp2
          go_roundw
          case rel => exact ⟨pos + 1, by omega, hit2, by rw [HSN.out, sel_snoc, HC.out]; simpa using hown2, by rw [HSN.out, allOk_snoc, HC.out, HOK.out]; rfl, hbl2⟩
          case measure => simp only [World.iterPos, hit2, HIT.out]; omega
        · have b1 : ((c : Int) == 48) = false := by rw [beq_eq_false_iff_ne]; omega
          have b2 : ((c : Int) == 49) = false := by rw [beq_eq_false_iff_ne]; omega
          have b3 : ((c : Int) == 32) = false := by rw [beq_eq_false_iff_ne]; omega
          have b4 : ((c : Int) == 95) = false := by rw [beq_eq_false_iff_ne]; omega
          have HBAD : Hid (allOk s.data.toList = false) := allOk_bad s pos hp (by rw [HC.out, ok1]; simp [h1, h2, h3, h4])
          clear h1 h2 h3 h4 hit2 hown2
          go_wp2
          go_ret2
          exact ⟨hbl2, .inr ⟨HBAD.out, rfl⟩⟩
      · have hd := decode_high s pos hp (by omega)
        have hnx : ∀ ty, (Instr.next (.pointer (some ⟨w1.heap.size, 0, none⟩)) true ty).run Try.prog wr = _ := fun ty => Lib.run_next_any_at wr w1.heap.size s pos ty hit hp
        obtain ⟨r, hr⟩ : ∃ r, (Utf8.decode s pos).1 = r := ⟨_, rfl⟩
        have hbl2 := Lib.below_iterAt hbl (k := w1.heap.size) (by omega) s (pos + (Utf8.decode s pos).2)
        obtain ⟨w2, hw2⟩ : ∃ w2, wr.iterAt w1.heap.size s (pos + (Utf8.decode s pos).2) = w2 := ⟨_, rfl⟩
        rw [hw2] at hbl2
        simp only [hw2, hr] at hnx
        rw [hr] at hd
        have hr1 : 128 ≤ r := hd.1
        clear hw2 hr hd
        have b1 : ((r : Int) == 48) = false := by rw [beq_eq_false_iff_ne]; omega
        have b2 : ((r : Int) == 49) = false := by rw [beq_eq_false_iff_ne]; omega
        have b3 : ((r : Int) == 32) = false := by rw [beq_eq_false_iff_ne]; omega
        have b4 : ((r : Int) == 95) = false := by rw [beq_eq_false_iff_ne]; omega
        have HBAD : Hid (allOk s.data.toList = false) := allOk_bad s pos hp (by rw [hc, ok1]; simp; omega)
        clear hit hown hc
        go_wp2
        go_ret2
        exact ⟨hbl2, .inr ⟨HBAD.out, rfl⟩⟩
    · have hnx : ∀ ty, (Instr.next (.pointer (some ⟨w1.heap.size, 0, none⟩)) true ty).run Try.prog wr = _ := fun ty => Lib.run_next_end_at wr w1.heap.size s pos ty hit hp
      have hok := HOK.out
      rw [List.take_of_length_le (by simp; omega)] at hown hok
      have HO : Hid (allOk s.data.toList = true) := hok
      clear hok hit
      go_wp2
      go_ret2
      exact ⟨hbl, .inl ⟨HO.out, _, rfl, hown⟩⟩
end Go.Proofs.Ytokjieejnahfmaa.Tape
