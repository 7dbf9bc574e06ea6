/- The contracts of the bucket laws' awake and units; what they are told of a slice of numbers that came in. -/
import Derived.Test.YtldjglmelbkngaaGreatLeak3
namespace Go.Proofs.YtldjglmelbkngaaGreat.Tape
open Go.ChangeShapes Go.WideShapes Go.ChangeAt Go.RowKit

theorem Reads.of_ints {k : IntKind} {w : World} {x : Addr} {zs : List Int} {len : Nat} (hc : ∀ i, i < zs.length → w.cell? (x.add i) = some (.int k (zs.getD i 0))) (hl : len ≤ zs.length) :
    Reads w (some x) ((zs.take len).map (.int k)) := fun j v hk => by
  have hk' : j < len ∧ j < zs.length := by
    have := (List.getElem?_eq_some_iff.1 hk).1
    simp at this
    omega
  obtain ⟨b, off, rfl, hcc⟩ := ints_at hc (show 0 < zs.length by omega)
  refine ⟨b, off, rfl, ?_⟩
  rw [hcc j hk'.2]
  rw [List.getElem?_map, List.getElem?_take, if_pos hk'.1, List.getElem?_eq_getElem hk'.2] at hk
  simp at hk
  subst hk
  simp [List.getD, hk'.2]

/-- What a law is told of a slice of numbers that came in, as a list. -/
theorem row_nums {k : IntKind} {w : World} {a : Option Addr} {len cap : Nat} {zs : List Int} (h : (a = none ∧ len = 0 ∧ cap = 0 ∧ zs = []) ∨
    ∃ x, a = some x ∧ len ≤ cap ∧ cap ≤ maxLen ∧ zs.length = cap ∧ (∀ i, i < zs.length → w.cell? (x.add i) = some (.int k (zs.getD i 0))) ∧ ∀ n ∈ zs, (Lit.int k n).wf = true) :
    ∃ xs : List Int, xs.length = len ∧ len ≤ maxLen ∧ Reads w a (xs.map (.int k)) ∧ ∀ x ∈ xs, (Lit.int k x).wf = true := by
  rcases h with ⟨rfl, rfl, rfl, rfl⟩ | ⟨x, rfl, h1, h2, h3, h4, h5⟩
  · exact ⟨[], rfl, Nat.zero_le _, Reads.nil _ _, by simp⟩
  · exact ⟨zs.take len, by simp; omega, by omega, Reads.of_ints h4 (by omega), fun n hn => h5 n (List.mem_of_mem_take hn)⟩

theorem fails64 : fails lk0 (List.replicate 64 true) 0 = 63 := by decide +kernel

end Go.Proofs.YtldjglmelbkngaaGreat.Tape
