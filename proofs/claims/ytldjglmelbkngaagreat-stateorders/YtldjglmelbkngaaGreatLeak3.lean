/- The contracts of the reference's Fails, of the bucket laws' awake and units. -/
import Derived.Test.YtldjglmelbkngaaGreatLeak2
namespace Go.Proofs.YtldjglmelbkngaaGreat.Tape
open Go.ChangeShapes Go.WideShapes Go.ChangeAt Go.RowKit

theorem unit_cases (n s : Nat) (b : Bool) : (Lk.mk n s).unit b =
    if n = 0 then (if b then ⟨1, 0⟩ else ⟨0, s⟩)
    else if s + 1 = 256 then (if b then (if n = 1 then ⟨1, 0⟩ else ⟨n, 0⟩) else ⟨n - 1, 0⟩)
    else (if b then ⟨n + 1, s + 1⟩ else ⟨n, s + 1⟩) := by
  by_cases h0 : n = 0
  · subst h0
    cases b <;> rfl
  · by_cases h1 : s + 1 = 256
    · cases b
      · simp [Lk.unit, Lk.old, Lk.new, h0, h1]
      · by_cases h2 : n = 1
        · subst h2; simp [Lk.unit, Lk.old, Lk.new, h1]
        · have : n - 1 ≠ 0 := by omega
          simp [Lk.unit, Lk.old, Lk.new, h0, h1, h2, this]; omega
    · cases b <;> simp [Lk.unit, Lk.old, Lk.new, h0, h1]

end Go.Proofs.YtldjglmelbkngaaGreat.Tape
