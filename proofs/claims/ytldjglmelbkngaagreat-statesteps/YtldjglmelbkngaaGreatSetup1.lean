/- The contracts of setup's held, within, notBelow0, Unit, Least. -/
import Derived.Test.YtldjglmelbkngaaGreatBase
namespace Go.Proofs.YtldjglmelbkngaaGreat.Tape
open Go.ChangeShapes Go.WideShapes Go.ChangeAt Go.RowKit

/-- A number, or the bound that it is beyond. -/
def hld (n l m : Int) : Int := if m < (if n < l then l else n) then m else (if n < l then l else n)

/-- 0 below 0. -/
def nb0 (n : Int) : Int := if n < 0 then 0 else n

/-- How many ticks a unit takes. -/
def unt (n : Int) : Int := (8 * nb0 n + 8 * nb0 n / 5 + 15) / 8 + 1

theorem unt_bounds (n : Int) (h : n ≤ 1099511627776) : 0 ≤ unt n ∧ unt n ≤ 10000000000000 := by
  unfold unt nb0
  split <;> omega

theorem nb0_bounds (n : Int) (h : n ≤ 1099511627776) : 0 ≤ nb0 n ∧ nb0 n ≤ 1099511627776 := by
  unfold nb0
  split <;> omega

/-- The least T7. -/
def lea (d : Int) : Int := (2 * nb0 d + 7) / 8 + 2 * unt 279 + 8

end Go.Proofs.YtldjglmelbkngaaGreat.Tape
