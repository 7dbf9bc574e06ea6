/- The contracts of the laws' near and of unit's body. -/
import Derived.Test.YthkbfbjlkjfkiaaUnit2
namespace Go.Proofs.Ythkbfbjlkjfkiaa.Tape
open Go.ChangeShapes Go.WideShapes Go.ChangeAt Go.RowKit

set_option maxRecDepth 100000 in
set_option maxHeartbeats 1000000 in
theorem near_no (b f : Int) (p q : Bool) (k s : Int) (wd : Bool) (ao : Option Addr) (n cap : Nat) (h : Int) (w : World) (hh : h < 64) :
    Calls Try.prog 9 #[.agg #[.int .u8 b, .int .u8 f, .bool p, .bool q, .int .u8 k, .int .u8 s, .bool wd, .slice ao n cap], .int .u8 h] w fun e w' => e = .returned (.agg #[.int .u8 b, .int .u8 f, .bool p, .bool q, .int .u8 k, .int .u8 s, .bool wd, .slice ao n cap]) ∧ Below w.heap.size w w' := by
  go_enter Try.func9, Try.ntmps9
  go_wp2
  refine bodyPost_ret (v := .agg #[.int .u8 b, .int .u8 f, .bool p, .bool q, .int .u8 k, .int .u8 s, .bool wd, .slice ao n cap]) (by simp [results, Try.results9, go_sem]) rfl ⟨rfl, ((Below.refl _ _).alloc (Nat.le_refl _) _).alloc (by simp) _⟩

set_option maxRecDepth 100000 in
set_option maxHeartbeats 1000000 in
theorem near_yes (b f : Int) (p q : Bool) (k s : Int) (wd : Bool) (ao : Option Addr) (n cap : Nat) (h : Int) (w : World) (hh : 64 ≤ h) (hb : 0 ≤ b) (hf : 0 ≤ f) (hk : 0 ≤ k) (hs : 0 ≤ s) :
    Calls Try.prog 9 #[.agg #[.int .u8 b, .int .u8 f, .bool p, .bool q, .int .u8 k, .int .u8 s, .bool wd, .slice ao n cap], .int .u8 h] w fun e w' => e = .returned (.agg #[.int .u8 (b % 128), .int .u8 (f % 128), .bool p, .bool q, .int .u8 (k % 3), .int .u8 (s % 8), .bool wd, .slice ao n cap]) ∧ Below w.heap.size w w' := by
  go_enter Try.func9, Try.ntmps9
  go_wp2
  refine bodyPost_ret (v := .agg #[.int .u8 (b % 128), .int .u8 (f % 128), .bool p, .bool q, .int .u8 (k % 3), .int .u8 (s % 8), .bool wd, .slice ao n cap]) (by simp [results, Try.results9, go_sem]) rfl ⟨rfl, ((Below.refl _ _).alloc (Nat.le_refl _) _).alloc (by simp) _⟩

theorem reads_lit_at (w : World) (l : List Int) (fr : Nat × Nat) {B : Nat} (hB : w.heap.size = B) : Reads (w.alloc (.cells (l.map (Value.int .u8)).toArray 5 fr)) (some ⟨B, 0, none⟩) (l.map (.int .u8)) := by
  subst hB; exact reads_lit w l fr

/-- What stands behind a unit's length indicator. -/
def bod (k s : Int) (wd : Bool) (xs : List Int) : List Int := if k = 2 then xs else if k = 1 then (if wd then [s, 0] else [s]) else []

set_option maxRecDepth 100000 in
set_option maxHeartbeats 1000000 in
theorem body_any (b f : Int) (p q : Bool) (k s : Int) (wd : Bool) (ao : Option Addr) (n cap : Nat) (xs : List Int) (w : World) (hk : k = 0 ∨ k = 1 ∨ k = 2) (hn : xs.length = n) (hr : Reads w ao (xs.map (.int .u8))) (hnil : ao = none → cap = 0) :
    Calls Try.prog 20 #[.agg #[.int .u8 b, .int .u8 f, .bool p, .bool q, .int .u8 k, .int .u8 s, .bool wd, .slice ao n cap]] w fun e w' => ∃ vo m ca, e = .returned (.slice vo m ca) ∧ (bod k s wd xs).length = m ∧ Reads w' vo ((bod k s wd xs).map (.int .u8)) ∧ (vo = none → ca = 0) ∧ Below w.heap.size w w' := by
  rcases hk with rfl | rfl | rfl
  · go_enter Try.func20, Try.ntmps20
    go_wp2
    go_ret
    exact ⟨_, _, _, rfl, rfl, Reads.nil _ _, fun _ => rfl, (Below.refl _ _).alloc (Nat.le_refl _) _⟩
  · cases wd
    · go_enter Try.func20, Try.ntmps20
      go_wp2
      go_ret
      refine ⟨_, _, _, rfl, rfl, reads_lit_at _ [s] _ (by simp), (fun h => by cases h), ((Below.refl _ _).alloc (Nat.le_refl _) _).alloc (by simp) _⟩
    · go_enter Try.func20, Try.ntmps20
      go_wp2
      go_ret
      refine ⟨_, _, _, rfl, rfl, reads_lit_at _ [s, 0] _ (by simp), (fun h => by cases h), ((Below.refl _ _).alloc (Nat.le_refl _) _).alloc (by simp) _⟩
  · go_enter Try.func20, Try.ntmps20
    go_wp2
    go_ret
    exact ⟨_, _, _, rfl, hn, hr.below (Nat.le_refl _) ((Below.refl _ _).alloc (Nat.le_refl _) _), hnil, (Below.refl _ _).alloc (Nat.le_refl _) _⟩
end Go.Proofs.Ythkbfbjlkjfkiaa.Tape
