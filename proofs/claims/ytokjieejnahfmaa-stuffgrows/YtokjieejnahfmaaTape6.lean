/- The contract of tape's Octets; octets as a string. -/
import Derived.Test.YtokjieejnahfmaaTape5
namespace Go.Proofs.Ytokjieejnahfmaa.Tape
open Go.ChangeShapes Go.WideShapes Go.ChangeAt Go.RowKit

/-- Octets as a string. -/
def str (xs : List Int) : ByteArray := ⟨(xs.map fun n => UInt8.ofNat n.toNat).toArray⟩

theorem conv_reads {w : World} {ao : Option Addr} {cap n : Nat} {xs : List Int} (hn : xs.length = n) (h : Reads w ao (xs.map (.int .u8))) : (convert 22 9 (.slice ao n cap)).run Try.prog w = .ok (.string (str xs)) w := by
  subst hn
  cases xs with
  | nil =>
    rw [run_convert_bytes_string w 22 9 5 ao _ cap Try.underlying22 Try.underlying5 Try.underlying9]
    cases ao with
    | none => simp [Conv.bytesToString]; rfl
    | some a =>
      rw [run_bytesToString w a _ cap [] (by simp [loadCells, loadCellsFrom])]
      rfl
  | cons x xs =>
    obtain ⟨g, off, rfl, _⟩ := h 0 _ rfl
    refine run_convert_bytes_arg w 22 5 Try.underlying22 Try.underlying5 g off _ cap (x :: xs) rfl (fun i hi => ?_) 9 Try.underlying9
    obtain ⟨g', off', e, hc⟩ := h.byte i hi
    simp only [Option.some.injEq, Addr.mk.injEq, and_true] at e
    obtain ⟨rfl, rfl⟩ := e
    rw [hc, ← getD_get _ _ hi]

theorem Reads.drop {w : World} {g off : Nat} {vs : List Value} (h : Reads w (some ⟨g, off, none⟩) vs) (n : Nat) : Reads w (some ⟨g, off + n, none⟩) (vs.drop n) := fun k v hk => by
  rw [List.getElem?_drop] at hk
  obtain ⟨g', off', e, hc⟩ := h (n + k) v hk
  simp only [Option.some.injEq, Addr.mk.injEq, and_true] at e
  obtain ⟨rfl, rfl⟩ := e
  exact ⟨_, _, rfl, by rw [Nat.add_assoc]; exact hc⟩

/-- The first k octets of bits. -/
def octsTo (bs : List Bool) (k : Nat) : List Int := (List.range k).map fun i => low (bs.drop (8 * i)) 8
theorem octsTo_len (bs : List Bool) (k : Nat) : (octsTo bs k).length = k := by simp [octsTo]
theorem octsTo_succ (bs : List Bool) (k : Nat) : octsTo bs (k + 1) = octsTo bs k ++ [low (bs.drop (8 * k)) 8] := by simp [octsTo, List.range_succ]

theorem low_congr {bs cs : List Bool} : ∀ k, (∀ j, j < k → bs.getD j false = cs.getD j false) → low bs k = low cs k
  | 0, _ => rfl
  | k + 1, h => by rw [low, low, h k (by omega), low_congr k (fun j hj => h j (by omega))]

theorem low_all : ∀ n : Fin 256, low ((List.range 8).map fun j => bitAt (n.val : Int) j) 8 = (n.val : Int) := by decide +kernel

theorem low_sum (x : Int) (bs : List Bool) (h0 : 0 ≤ x) (h1 : x ≤ 255) (hb : ∀ j, j < 8 → bs.getD j false = bitAt x j) : low bs 8 = x := by
  obtain ⟨n, rfl⟩ := Int.eq_ofNat_of_zero_le h0
  have h := low_all ⟨n, by omega⟩
  rw [← h]
  refine low_congr 8 (fun j hj => ?_)
  rw [hb j hj]
  simp [List.getD, hj]

theorem octs_bits (xs : List Int) (hx : ∀ x ∈ xs, 0 ≤ x ∧ x ≤ 255) : octsTo (bits xs) xs.length = xs := by
  apply List.ext_getElem
  · rw [octsTo_len]
  · intro i h1 h2
    have hr := hx _ (List.getElem_mem h2)
    simp only [octsTo, List.getElem_map, List.getElem_range]
    refine low_sum xs[i] _ hr.1 hr.2 (fun j hj => ?_)
    have hk : 8 * i + j < 8 * xs.length := by omega
    have e := bits_get xs (8 * i + j) hk
    rw [show (8 * i + j) / 8 = i from by omega, show (8 * i + j) % 8 = j from by omega, getD_get xs i h2] at e
    rw [← e]
    simp [List.getD, bits_len, hk]

theorem owns_below {w w' : World} {base : Nat} {e : TypeId} {v : Value} {n : Nat} {vs : List Value} (h : w.ownsRow base e 1 v n vs) (hb : Below w.heap.size w w') : w'.ownsRow base e 1 v n vs := by
  refine ⟨h.1, ?_⟩
  rcases h.2 with h' | ⟨g, cap, cur, hv, hB, hg, rest⟩
  · exact .inl h'
  · exact .inr ⟨g, cap, cur, hv, hB, by rw [hb.block g (Array.getElem?_eq_some_iff.1 hg).1]; exact hg, rest⟩

theorem list_take_set {α : Type} (l : List α) (k : Nat) (v : α) (h : k < l.length) : (l.set k v).take (k + 1) = l.take k ++ [v] := by
  rw [List.take_succ_eq_append_getElem (by simpa using h), List.take_set, List.set_eq_of_length_le (by simp; omega)]
  simp

end Go.Proofs.Ytokjieejnahfmaa.Tape
