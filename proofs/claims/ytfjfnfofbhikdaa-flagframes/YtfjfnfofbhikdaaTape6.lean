/- The contract of tape's Octets; octets as a string. -/
import Derived.Test.YtfjfnfofbhikdaaTape5
namespace Go.Proofs.Ytfjfnfofbhikdaa.Tape
open Go.ChangeShapes Go.WideShapes Go.ChangeAt Go.RowKit

/-- Octets as a string. -/
def str (xs : List Int) : ByteArray := ⟨(xs.map fun n => UInt8.ofNat n.toNat).toArray⟩

theorem conv_reads {w : World} {ao : Option Addr} {cap n : Nat} {xs : List Int} (hn : xs.length = n) (h : Reads w ao (xs.map (.int .u8))) : (convert 22 9 (.slice ao n cap)).run Try.prog w = .ok (.string (str xs)) w := by
  subst hn
  cases xs with
  | nil =>
    rw [run_convert_bytes_string w 22 9 5 ao _ cap Try.underlying22 Try.underlying5 Try.underlying9]
    cases ao with
    | none => simp [Conv.bytesToString]; rfl
    | some a =>
      rw [run_bytesToString w a _ cap [] (by simp [loadCells, loadCellsFrom])]
      rfl
  | cons x xs =>
    obtain ⟨g, off, rfl, _⟩ := h 0 _ rfl
    refine run_convert_bytes_arg w 22 5 Try.underlying22 Try.underlying5 g off _ cap (x :: xs) rfl (fun i hi => ?_) 9 Try.underlying9
    obtain ⟨g', off', e, hc⟩ := h.byte i hi
    simp only [Option.some.injEq, Addr.mk.injEq, and_true] at e
    obtain ⟨rfl, rfl⟩ := e
    rw [hc, ← getD_get _ _ hi]

theorem Reads.drop {w : World} {g off : Nat} {vs : List Value} (h : Reads w (some ⟨g, off, none⟩) vs) (n : Nat) : Reads w (some ⟨g, off + n, none⟩) (vs.drop n) := fun k v hk => by
  rw [List.getElem?_drop] at hk
  obtain ⟨g', off', e, hc⟩ := h (n + k) v hk
  simp only [Option.some.injEq, Addr.mk.injEq, and_true] at e
  obtain ⟨rfl, rfl⟩ := e
  exact ⟨_, _, rfl, by rw [Nat.add_assoc]; exact hc⟩

theorem low_8 (ao : Option Addr) (n cap : Nat) (bs : List Bool) (w : World) (hn : bs.length = n) (h8 : 8 ≤ n) (hl : n ≤ 1000000) (h : Reads w ao (bs.map .bool)) :
    Calls Try.prog 46 #[.slice ao n cap] w fun e w' => e = .returned (.int .u8 (low bs 8)) ∧ w' = w := by
  have := low_n ao n cap bs w hn hl h
  rwa [Nat.min_eq_left h8] at this

/-- The first k octets of bits. -/
def octsTo (bs : List Bool) (k : Nat) : List Int := (List.range k).map fun i => low (bs.drop (8 * i)) 8
theorem octsTo_len (bs : List Bool) (k : Nat) : (octsTo bs k).length = k := by simp [octsTo]
theorem octsTo_succ (bs : List Bool) (k : Nat) : octsTo bs (k + 1) = octsTo bs k ++ [low (bs.drop (8 * k)) 8] := by simp [octsTo, List.range_succ]

theorem low_congr {bs cs : List Bool} : ∀ k, (∀ j, j < k → bs.getD j false = cs.getD j false) → low bs k = low cs k
  | 0, _ => rfl
  | k + 1, h => by rw [low, low, h k (by omega), low_congr k (fun j hj => h j (by omega))]

theorem low_all : ∀ n : Fin 256, low ((List.range 8).map fun j => bitAt (n.val : Int) j) 8 = (n.val : Int) := by decide +kernel

theorem low_sum (x : Int) (bs : List Bool) (h0 : 0 ≤ x) (h1 : x ≤ 255) (hb : ∀ j, j < 8 → bs.getD j false = bitAt x j) : low bs 8 = x := by
  obtain ⟨n, rfl⟩ := Int.eq_ofNat_of_zero_le h0
  have h := low_all ⟨n, by omega⟩
  rw [← h]
  refine low_congr 8 (fun j hj => ?_)
  rw [hb j hj]
  simp [List.getD, hj]

theorem octs_bits (xs : List Int) (hx : ∀ x ∈ xs, 0 ≤ x ∧ x ≤ 255) : octsTo (bits xs) xs.length = xs := by
  apply List.ext_getElem
  · rw [octsTo_len]
  · intro i h1 h2
    have hr := hx _ (List.getElem_mem h2)
    simp only [octsTo, List.getElem_map, List.getElem_range]
    refine low_sum xs[i] _ hr.1 hr.2 (fun j hj => ?_)
    have hk : 8 * i + j < 8 * xs.length := by omega
    have e := bits_get xs (8 * i + j) hk
    rw [show (8 * i + j) / 8 = i from by omega, show (8 * i + j) % 8 = j from by omega, getD_get xs i h2] at e
    rw [← e]
    simp [List.getD, bits_len, hk]

theorem owns_below {w w' : World} {base : Nat} {e : TypeId} {v : Value} {n : Nat} {vs : List Value} (h : w.ownsRow base e 1 v n vs) (hb : Below w.heap.size w w') : w'.ownsRow base e 1 v n vs := by
  refine ⟨h.1, ?_⟩
  rcases h.2 with h' | ⟨g, cap, cur, hv, hB, hg, rest⟩
  · exact .inl h'
  · exact .inr ⟨g, cap, cur, hv, hB, by rw [hb.block g (Array.getElem?_eq_some_iff.1 hg).1]; exact hg, rest⟩

set_option maxHeartbeats 400000 in
theorem octets_err (ao : Option Addr) (n cap : Nat) (w : World) (hl : n ≤ 1000000) (h8 : n % 8 ≠ 0) :
    Calls Try.prog 33 #[.slice ao n cap] w fun e w' => e = .returned (.tuple #[.slice none 0 0, .int .i64 8]) ∧ w' = w := by
  have t : ((n : Int) % 8 != 0) = true := by rw [bne_iff_ne]; omega
  go_enter Try.func33, Try.ntmps33
  go_wp2
  go_ret2
  exact ⟨rfl, rfl⟩

theorem list_take_set {α : Type} (l : List α) (k : Nat) (v : α) (h : k < l.length) : (l.set k v).take (k + 1) = l.take k ++ [v] := by
  rw [List.take_succ_eq_append_getElem (by simpa using h), List.take_set, List.set_eq_of_length_le (by simp; omega)]
  simp

set_option maxRecDepth 100000 in
set_option maxHeartbeats 1000000 in
theorem octets_ok (ao : Option Addr) (n cap : Nat) (bs : List Bool) (w : World) (hn : bs.length = n) (hl : n ≤ 1000000) (hcap : n ≤ cap) (h8 : n % 8 = 0) (h : Reads w ao (bs.map .bool)) :
    Calls Try.prog 33 #[.slice ao n cap] w fun e w' => ∃ v, e = .returned (.tuple #[v, .int .i64 0]) ∧ w'.ownsRow w.heap.size 5 1 v (n / 8) ((octsTo bs (n / 8)).map (.int .u8)) ∧ Below w.heap.size w w' := by
  obtain ⟨i0, hi, hz0, hz1, hz2⟩ := info_parts info5
  obtain ⟨N, hN⟩ : ∃ N, N = n / 8 := ⟨_, rfl⟩
  rw [← hN]
  have hnN : n = 8 * N := by omega
  have HL : Hid (bs.length = n) := hn
  have t : ((n : Int) % 8 != 0) = false := by rw [bne_eq_false_iff_eq]; omega
  have t2 : (n : Int) / 8 = (N : Int) := by omega
  have hn1 : n ≤ 8 * N := by omega
  have hn2 : 8 * N ≤ n := by omega
  clear hn hN h8 hnN
  go_enter Try.func33, Try.ntmps33
  go_wp2_with (at_make; refine wpList_make_full _ rfl _ _ 22 rfl w.heap.size 5 i0 (.int .u8 0) 1 Try.underlying22 hi hz0 hz1 _ _ _ _ N rfl rfl rfl rfl (by rw [hz2]; omega) (by unfold maxLen; omega) (Nat.le_refl _) ?_)
  intro w1 hown1 hgrow1
  have hb1 : Below w.heap.size w w1 := (Below.refl w.heap.size w).grown hgrow1 (Nat.le_refl _) (by simp)
  obtain ⟨cur, hg1, hcur⟩ : ∃ cur : List Value, w1.heap[w.heap.size]? = some (.cells cur.toArray 5 (0, 0)) ∧ cur.length = N := by
    rcases hown1.2 with ⟨h, _⟩ | ⟨g, cap, cur, hv, _, hg, _, _, hs, _⟩
    · cases h
    · simp only [Value.slice.injEq, Option.some.injEq, Addr.mk.injEq, and_true, true_and] at hv
      obtain ⟨rfl, rfl⟩ := hv
      exact ⟨cur.toList, by simpa using hg, by simpa using hs⟩
  clear hown1 hgrow1 t
  have HG : Hid (w1.heap[w.heap.size]? = some (.cells cur.toArray 5 (0, 0))) := hg1
  have HC : Hid (cur.length = N) := hcur
  clear hg1 hcur
  go_wp2
  clear t2
  go_loopw [16] (fun i wr => ∃ (k : Nat) (row : List Value), k ≤ N ∧ i = .int .i64 k ∧ wr.heap[w.heap.size]? = some (.cells row.toArray 5 (0, 0)) ∧ row.length = N ∧ row.take k = (octsTo bs k).map (.int .u8) ∧ Below w.heap.size w wr) (fun i _ => N - (intOf i).toNat)
  case atStart => exact ⟨0, cur, by omega, rfl, HG.out, HC.out, by simp [octsTo], hb1⟩
  case round =>
    clear hb1 HG HC
    obtain ⟨k, row, hk, rfl, hg, hrl, htk, hbl⟩ := hrel
    by_cases hlt : k < N
    · obtain ⟨g, off, rfl, hc0⟩ := h.bool (8 * k) (by have := HL.out; omega)
      have hlt8 : 8 * k + 8 ≤ n := by omega
      have hsz := hbl.size
      have hrd := (h.below (Nat.le_refl _) hbl).drop (8 * k)
      rw [← List.map_drop] at hrd
      have hdl : Hid ((bs.drop (8 * k)).length = n - 8 * k) := by show (bs.drop (8 * k)).length = n - 8 * k; rw [List.length_drop, HL.out]
      have hcu : wr.cell? ⟨w.heap.size, k, none⟩ = some row[k] := by rw [Lib.cell_of_heap hg]; simp [hrl, hlt]
      have hfz : wr.frozen? ⟨w.heap.size, k, none⟩ = false := Lib.frozen_of_heap hg k
      generalize row[k] = old at hcu
      have hset := row_set hg k (.int .u8 (low (bs.drop (8 * k)) 8))
      have HS : Hid ((wr.setCell ⟨w.heap.size, k, none⟩ (.int .u8 (low (bs.drop (8 * k)) 8))).heap[w.heap.size]? = some (.cells (row.set k (.int .u8 (low (bs.drop (8 * k)) 8))).toArray 5 (0, 0))) := hset
      have HT : Hid ((row.set k (.int .u8 (low (bs.drop (8 * k)) 8))).take (k + 1) = (octsTo bs (k + 1)).map (.int .u8)) := by
        show _ = _
        rw [list_take_set row k _ (by omega), htk, octsTo_succ, List.map_append]; rfl
      have HR : Hid (row.length = N) := hrl
      clear hset hg htk hc0 hrl
      go_wp2_with (go_at_call 46; refine (low_8 _ _ _ (bs.drop (8 * k)) _ hdl.out (by omega) (by omega) hrd).mono ?_; rintro e w' ⟨rfl, hw'⟩; obtain rfl := hw'.symm; clear hw')
      go_roundw
      case rel => exact ⟨k + 1, _, by omega, by go_num, HS.out, by rw [List.length_set]; exact HR.out, HT.out, hbl.setCell (p := ⟨w.heap.size, k, none⟩) (Nat.le_refl _) _⟩
      case measure => simp [intOf]; omega
    · obtain rfl : k = N := by omega
      have HO : Hid (wr.ownsRow w.heap.size 5 1 (.slice (some ⟨w.heap.size, 0, none⟩) k k) k ((octsTo bs k).map (.int .u8))) := by
        refine ⟨by rw [List.length_map, octsTo_len]; omega, .inr ⟨w.heap.size, k, _, rfl, Nat.le_refl _, hg, Nat.le_refl _, by unfold maxLen; omega, by simp [hrl], ?_⟩⟩
        rw [← htk]; simp
      clear hg htk hrl
      go_wp2
      go_ret2
      exact ⟨_, rfl, HO.out, hbl⟩
end Go.Proofs.Ytfjfnfofbhikdaa.Tape
