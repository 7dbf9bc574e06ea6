/- The contracts of unit's Right and the reference's, of unit's body, and of the laws' near. -/
import Derived.Test.YthkbfbjlkjfkiaaUnit1
namespace Go.Proofs.Ythkbfbjlkjfkiaa.Tape
open Go.ChangeShapes Go.WideShapes Go.ChangeAt Go.RowKit

/-- The error's number of a unit. -/
def rgt (b f k s : Int) (n : Nat) : Nat :=
  if 127 < b ∨ 127 < f ∨ 2 < k then 1 else if k = 1 ∧ 7 < s then 1 else if k = 2 ∧ n < 3 then 5 else if k = 2 ∧ 273 < n then 6 else 0

/-- The ways that Right goes. -/
theorem rgt_ways (b f k s : Int) (n : Nat) (h0 : 0 ≤ k) :
    (127 < b ∧ rgt b f k s n = 1) ∨ (b ≤ 127 ∧ 127 < f ∧ rgt b f k s n = 1) ∨ (b ≤ 127 ∧ f ≤ 127 ∧ 2 < k ∧ rgt b f k s n = 1) ∨
    (b ≤ 127 ∧ f ≤ 127 ∧ k = 0 ∧ rgt b f k s n = 0) ∨ (b ≤ 127 ∧ f ≤ 127 ∧ k = 1 ∧ 7 < s ∧ rgt b f k s n = 1) ∨ (b ≤ 127 ∧ f ≤ 127 ∧ k = 1 ∧ s ≤ 7 ∧ rgt b f k s n = 0) ∨
    (b ≤ 127 ∧ f ≤ 127 ∧ k = 2 ∧ n < 3 ∧ rgt b f k s n = 5) ∨ (b ≤ 127 ∧ f ≤ 127 ∧ k = 2 ∧ 273 < n ∧ rgt b f k s n = 6) ∨ (b ≤ 127 ∧ f ≤ 127 ∧ k = 2 ∧ 3 ≤ n ∧ n ≤ 273 ∧ rgt b f k s n = 0) := by
  unfold rgt
  by_cases h1 : 127 < b
  · exact .inl ⟨h1, if_pos (.inl h1)⟩
  by_cases h2 : 127 < f
  · exact .inr (.inl ⟨by omega, h2, if_pos (.inr (.inl h2))⟩)
  by_cases h3 : 2 < k
  · exact .inr (.inr (.inl ⟨by omega, by omega, h3, if_pos (.inr (.inr h3))⟩))
  rw [if_neg (by omega)]
  have hk : k = 0 ∨ k = 1 ∨ k = 2 := by omega
  rcases hk with rfl | rfl | rfl
  · exact .inr (.inr (.inr (.inl ⟨by omega, by omega, rfl, by rw [if_neg (by omega), if_neg (by omega), if_neg (by omega)]⟩)))
  · by_cases h4 : 7 < s
    · exact .inr (.inr (.inr (.inr (.inl ⟨by omega, by omega, rfl, h4, by rw [if_pos ⟨rfl, h4⟩]⟩))))
    · exact .inr (.inr (.inr (.inr (.inr (.inl ⟨by omega, by omega, rfl, by omega, by rw [if_neg (by omega), if_neg (by omega), if_neg (by omega)]⟩)))))
  · rw [if_neg (by omega)]
    by_cases h5 : n < 3
    · exact .inr (.inr (.inr (.inr (.inr (.inr (.inl ⟨by omega, by omega, rfl, h5, by rw [if_pos ⟨rfl, h5⟩]⟩))))))
    · rw [if_neg (by omega)]
      by_cases h6 : 273 < n
      · exact .inr (.inr (.inr (.inr (.inr (.inr (.inr (.inl ⟨by omega, by omega, rfl, h6, by rw [if_pos ⟨rfl, h6⟩]⟩)))))))
      · exact .inr (.inr (.inr (.inr (.inr (.inr (.inr (.inr ⟨by omega, by omega, rfl, by omega, by omega, by rw [if_neg (by omega)]⟩)))))))

set_option maxRecDepth 100000 in
set_option maxHeartbeats 1000000 in
theorem uright_any (b f : Int) (p q : Bool) (k s : Int) (wd : Bool) (ao : Option Addr) (n cap R : Nat) (w : World) (hk0 : 0 ≤ k) (hR : rgt b f k s n = R) :
    Calls Try.prog 12 #[.agg #[.int .u8 b, .int .u8 f, .bool p, .bool q, .int .u8 k, .int .u8 s, .bool wd, .slice ao n cap]] w fun e w' => e = .returned (.int .i64 R) ∧ Below w.heap.size w w' := by
  rcases rgt_ways b f k s n hk0 with ⟨h1, hr⟩ | ⟨h1, h2, hr⟩ | ⟨h1, h2, h3, hr⟩ | ⟨h1, h2, rfl, hr⟩ | ⟨h1, h2, rfl, h4, hr⟩ | ⟨h1, h2, rfl, h4, hr⟩ | ⟨h1, h2, rfl, h4, hr⟩ | ⟨h1, h2, rfl, h4, hr⟩ | ⟨h1, h2, rfl, h4, h5, hr⟩
  all_goals
    rw [hR] at hr
    subst hr
    clear hR hk0
    go_enter Try.func12, Try.ntmps12
    go_wp2
    go_ret
    exact ⟨rfl, (Below.refl _ _).alloc (Nat.le_refl _) _⟩

set_option maxRecDepth 100000 in
set_option maxHeartbeats 1000000 in
theorem rright_any (b f : Int) (p q : Bool) (k s : Int) (wd : Bool) (ao : Option Addr) (n cap R : Nat) (w : World) (hk0 : 0 ≤ k) (hR : rgt b f k s n = R) :
    Calls Try.prog 11 #[.agg #[.int .u8 b, .int .u8 f, .bool p, .bool q, .int .u8 k, .int .u8 s, .bool wd, .slice ao n cap]] w fun e w' => e = .returned (.int .i64 R) ∧ Below w.heap.size w w' := by
  rcases rgt_ways b f k s n hk0 with ⟨h1, hr⟩ | ⟨h1, h2, hr⟩ | ⟨h1, h2, h3, hr⟩ | ⟨h1, h2, rfl, hr⟩ | ⟨h1, h2, rfl, h4, hr⟩ | ⟨h1, h2, rfl, h4, hr⟩ | ⟨h1, h2, rfl, h4, hr⟩ | ⟨h1, h2, rfl, h4, hr⟩ | ⟨h1, h2, rfl, h4, h5, hr⟩
  all_goals
    rw [hR] at hr
    subst hr
    clear hR hk0
    go_enter Try.func11, Try.ntmps11
    go_wp2
    go_ret
    exact ⟨rfl, (Below.refl _ _).alloc (Nat.le_refl _) _⟩
end Go.Proofs.Ythkbfbjlkjfkiaa.Tape
