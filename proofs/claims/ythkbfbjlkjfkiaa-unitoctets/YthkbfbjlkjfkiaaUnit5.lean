/- The contract of unit's Decode. -/
import Derived.Test.YthkbfbjlkjfkiaaUnit4
import Derived.BigQuiet
import Derived.Deep.QuietTactic
namespace Go.Proofs.Ythkbfbjlkjfkiaa.Tape
open Go.ChangeShapes Go.WideShapes Go.ChangeAt Go.RowKit

/-- A unit. -/
structure Un where
  b : Int
  f : Int
  p : Bool
  q : Bool
  k : Int
  s : Int
  wd : Bool
  info : List Int
def Un.zero : Un := ⟨0, 0, false, false, 0, 0, false, []⟩
/-- The unit that octets are where they are one. -/
def Un.of (xs : List Int) (n : Nat) : Un :=
  ⟨xs.getD 0 0 % 128, xs.getD 1 0 % 128, decide (128 ≤ xs.getD 0 0), decide (128 ≤ xs.getD 1 0), if n = 3 then 0 else if n ≤ 5 then 1 else 2, if n = 4 ∨ n = 5 then xs.getD 3 0 % 8 else 0, decide (n = 5), if 5 < n then xs.drop 3 else []⟩
/-- The unit that octets are, or why they are none. -/
def dcd (xs : List Int) (n : Nat) : Un × Nat :=
  if n < 3 then (Un.zero, 5) else if 276 < n then (Un.zero, 6) else if xs.getD 2 0 % 64 ≠ ((min (n - 3) 63 : Nat) : Int) then (Un.zero, 4) else (Un.of xs n, 0)
/-- What a Decode answers; its Info lies from B on. -/
def Dec (B : Nat) (w w' : World) (D : Un × Nat) (e : Ending) : Prop :=
  ∃ vo m ca, e = .returned (.tuple #[.agg #[.int .u8 D.1.b, .int .u8 D.1.f, .bool D.1.p, .bool D.1.q, .int .u8 D.1.k, .int .u8 D.1.s, .bool D.1.wd, .slice vo m ca], .int .i64 D.2]) ∧
    D.1.info.length = m ∧ m ≤ ca ∧ Reads w' vo (D.1.info.map (.int .u8)) ∧ (vo = none → ca = 0) ∧ Lies w' B vo ∧ Below w.heap.size w w'

theorem Dec.err {B : Nat} {w w' : World} {D : Un × Nat} {k : Nat} (hD : D = (Un.zero, k)) (hb : Below w.heap.size w w') : Dec B w w' D (.returned (.tuple #[.agg #[.int .u8 0, .int .u8 0, .bool false, .bool false, .int .u8 0, .int .u8 0, .bool false, .slice none 0 0], .int .i64 k])) := by
  subst hD
  exact ⟨none, 0, 0, rfl, rfl, Nat.le_refl _, Reads.nil _ _, fun _ => rfl, Lies.none _ _, hb⟩

theorem and63 (x : Int) (h0 : 0 ≤ x) (h1 : x ≤ 255) : Go.bits BinOp.and IntKind.u8 x 63 = x % 64 := by
  rw [u8_and _ _ h0 (by omega) (by decide) (by decide)]
  rw [show (63 : Int).toNat = 2 ^ 6 - 1 from rfl, Nat.and_two_pow_sub_one_eq_mod]
  omega
theorem and7 (x : Int) (h0 : 0 ≤ x) (h1 : x ≤ 255) : Go.bits BinOp.and IntKind.u8 x 7 = x % 8 := by
  rw [u8_and _ _ h0 (by omega) (by decide) (by decide)]
  rw [show (7 : Int).toNat = 2 ^ 3 - 1 from rfl, Nat.and_two_pow_sub_one_eq_mod]
  omega

theorem alloc_drewN (w : World) (o : Obj) (n : Nat) : (w.alloc o).drewN n = (w.drewN n).alloc o := rfl

/-- Octet i of octets that are read. -/
theorem byte_at {w : World} {g off : Nat} {xs : List Int} (h : Reads w (some ⟨g, off, none⟩) (xs.map (.int .u8))) (hx : ∀ x ∈ xs, 0 ≤ x ∧ x ≤ 255) (i : Nat) (hi : i < xs.length) :
    w.cell? ⟨g, off + i, none⟩ = some (.int .u8 (xs.getD i 0)) ∧ 0 ≤ xs.getD i 0 ∧ xs.getD i 0 ≤ 255 := by
  obtain ⟨g', off', e, hc⟩ := h.byte i hi
  simp only [Option.some.injEq, Addr.mk.injEq, and_true] at e
  obtain ⟨rfl, rfl⟩ := e
  rw [getD_get _ _ hi]
  exact ⟨hc, hx _ (List.getElem_mem hi)⟩

set_option maxRecDepth 100000 in
set_option maxHeartbeats 1000000 in
theorem decode_short (ao : Option Addr) (n cap : Nat) (w : World) (h : n < 3) :
    Calls Try.prog 13 #[.slice ao n cap] w fun e w' => e = .returned (.tuple #[.agg #[.int .u8 0, .int .u8 0, .bool false, .bool false, .int .u8 0, .int .u8 0, .bool false, .slice none 0 0], .int .i64 5]) ∧ Below w.heap.size w w' := by
  go_enter Try.func13, Try.ntmps13
  go_wp2
  refine bodyPost_ret (v := .tuple #[.agg #[.int .u8 0, .int .u8 0, .bool false, .bool false, .int .u8 0, .int .u8 0, .bool false, .slice none 0 0], .int .i64 5]) (by simp [results, Try.results13, go_sem]) rfl ⟨rfl, (Below.refl _ _).alloc (Nat.le_refl _) _⟩

set_option maxRecDepth 100000 in
set_option maxHeartbeats 1000000 in
theorem decode_long (ao : Option Addr) (n cap : Nat) (w : World) (h : 276 < n) :
    Calls Try.prog 13 #[.slice ao n cap] w fun e w' => e = .returned (.tuple #[.agg #[.int .u8 0, .int .u8 0, .bool false, .bool false, .int .u8 0, .int .u8 0, .bool false, .slice none 0 0], .int .i64 6]) ∧ Below w.heap.size w w' := by
  go_enter Try.func13, Try.ntmps13
  go_wp2
  refine bodyPost_ret (v := .tuple #[.agg #[.int .u8 0, .int .u8 0, .bool false, .bool false, .int .u8 0, .int .u8 0, .bool false, .slice none 0 0], .int .i64 6]) (by simp [results, Try.results13, go_sem]) rfl ⟨rfl, (Below.refl _ _).alloc (Nat.le_refl _) _⟩

set_option maxRecDepth 100000 in
set_option maxHeartbeats 1000000 in
theorem decode_form (g off n cap m : Nat) (x2 : Int) (w : World) (hnm : n = m + 3) (hl : n ≤ 276) (h0 : 0 ≤ x2) (h1 : x2 ≤ 255) (hx : x2 % 64 ≠ ((min m 63 : Nat) : Int)) (hc : w.cell? ⟨g, off + 2, none⟩ = some (.int .u8 x2)) :
    Calls Try.prog 13 #[.slice (some ⟨g, off, none⟩) n cap] w fun e w' => e = .returned (.tuple #[.agg #[.int .u8 0, .int .u8 0, .bool false, .bool false, .int .u8 0, .int .u8 0, .bool false, .slice none 0 0], .int .i64 4]) ∧ Below w.heap.size w w' := by
  have hlen := fun W => length_any m W (by omega)
  obtain ⟨L, hL⟩ : ∃ L : Int, ((min m 63 : Nat) : Int) = L := ⟨_, rfl⟩
  rw [hL] at hx
  have hlen' : ∀ W, Calls Try.prog 22 #[.int .i64 m] W fun e w' => e = .returned (.int .u8 L) ∧ w' = W := fun W => by rw [← hL]; exact hlen W
  clear hlen hL
  have ha := and63 x2 h0 h1
  have hne : (x2 % 64 != L) = true := by rw [bne_iff_ne]; exact hx
  have e1 : (n : Int) - 3 = (m : Int) := by omega
  have l1 : 3 ≤ n := by omega
  have l2 : (2 : Int) < (n : Int) := by omega
  have l3 : (m : Int) ≤ 300 := by omega
  have hc1 : (w.alloc (.cells #[.int .u8 0, .int .u8 0, .bool false, .bool false, .int .u8 0, .int .u8 0, .bool false, .slice none 0 0] 24)).cell? ⟨g, off + 2, none⟩ = some (.int .u8 x2) := by
    rw [((Below.refl w.heap.size w).alloc (Nat.le_refl _) _).cell (p := ⟨g, off + 2, none⟩) (World.block_lt_of_cell? w _ hc)]; exact hc
  clear hnm hx hc
  go_enter Try.func13, Try.ntmps13
  go_wp2
  go_quiet ((go_at_call 22; exact Calls.quiet_of_same (hlen' _)))
  rw [alloc_drewN, show w.heap.size = (w.drewN nq).heap.size from rfl]
  have hb1 : Below w.heap.size w (w.drewN nq) := below_drewN (Below.refl _ _) _
  have hs1 : (w.drewN nq).heap.size = w.heap.size := rfl
  generalize w.drewN nq = w1 at hb1 hs1 ⊢
  go_wp2
  refine bodyPost_ret (v := .tuple #[.agg #[.int .u8 0, .int .u8 0, .bool false, .bool false, .int .u8 0, .int .u8 0, .bool false, .slice none 0 0], .int .i64 4]) (by simp [results, Try.results13, go_sem]) rfl ⟨rfl, hb1.alloc (by omega) _⟩
end Go.Proofs.Ythkbfbjlkjfkiaa.Tape
