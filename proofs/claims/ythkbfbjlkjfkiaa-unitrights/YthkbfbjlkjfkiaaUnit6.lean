/- The contract of unit's Decode, of octets that are a unit. -/
import Derived.Test.YthkbfbjlkjfkiaaUnit5
namespace Go.Proofs.Ythkbfbjlkjfkiaa.Tape
open Go.ChangeShapes Go.WideShapes Go.ChangeAt Go.RowKit

set_option maxRecDepth 100000 in
set_option maxHeartbeats 1000000 in
theorem decode_fill (g off cap : Nat) (x0 x1 x2 : Int) (w : World) (_hcap : 3 ≤ cap) (h0 : 0 ≤ x0) (h0' : x0 ≤ 255) (h1 : 0 ≤ x1) (h1' : x1 ≤ 255) (h2 : 0 ≤ x2) (h2' : x2 ≤ 255) (hx : x2 % 64 = 0)
    (c0 : w.cell? ⟨g, off, none⟩ = some (.int .u8 x0)) (c1 : w.cell? ⟨g, off + 1, none⟩ = some (.int .u8 x1)) (c2 : w.cell? ⟨g, off + 2, none⟩ = some (.int .u8 x2)) :
    Calls Try.prog 13 #[.slice (some ⟨g, off, none⟩) 3 cap] w fun e w' => e = .returned (.tuple #[.agg #[.int .u8 (x0 % 128), .int .u8 (x1 % 128), .bool (decide (128 ≤ x0)), .bool (decide (128 ≤ x1)), .int .u8 0, .int .u8 0, .bool false, .slice none 0 0], .int .i64 0]) ∧ Below w.heap.size w w' := by
  have hlen : ∀ W, Calls Try.prog 22 #[.int .i64 0] W fun e w' => e = .returned (.int .u8 0) ∧ w' = W := fun W => length_any 0 W (by omega)
  have ha : Go.bits BinOp.and IntKind.u8 x2 63 = 0 := (and63 x2 h2 h2').trans hx
  have hs0 := fun W => split_any x0 W h0 h0'
  have hs1 := fun W => split_any x1 W h1 h1'
  have hlt : g < w.heap.size := World.block_lt_of_cell? w ⟨g, off, none⟩ c0
  have c2' : (w.alloc (.cells #[.int .u8 0, .int .u8 0, .bool false, .bool false, .int .u8 0, .int .u8 0, .bool false, .slice none 0 0] 24)).cell? ⟨g, off + 2, none⟩ = some (.int .u8 x2) := by
    rw [((Below.refl w.heap.size w).alloc (Nat.le_refl _) _).cell (p := ⟨g, off + 2, none⟩) hlt]; exact c2
  clear c2
  clear hx
  go_enter Try.func13, Try.ntmps13
  go_wp2
  go_quiet ((go_at_call 22; exact Calls.quiet_of_same (hlen _)))
  rw [alloc_drewN, show w.heap.size = (w.drewN nq).heap.size from rfl]
  have hb1 : Below w.heap.size w (w.drewN nq) := below_drewN (Below.refl _ _) _
  have hz1 : Hid ((w.drewN nq).heap.size = w.heap.size) := Eq.refl w.heap.size
  have d0 : (w.drewN nq).cell? ⟨g, off, none⟩ = some (.int .u8 x0) := c0
  have d1 : (w.drewN nq).cell? ⟨g, off + 1, none⟩ = some (.int .u8 x1) := c1
  have hlt1 : g < (w.drewN nq).heap.size := hlt
  generalize w.drewN nq = w1 at hb1 hz1 d0 d1 hlt1 ⊢
  clear c0 c1 c2' ha hlt
  go_wp2_with (first
    | (go_at_call 23; refine (hs0 _).mono ?_; rintro e w' ⟨rfl, hw'⟩; obtain rfl := hw'.symm; clear hw')
    | (go_at_call 23; refine (hs1 _).mono ?_; rintro e w' ⟨rfl, hw'⟩; obtain rfl := hw'.symm; clear hw'))
  all_goals refine bodyPost_ret (v := .tuple #[.agg #[.int .u8 (x0 % 128), .int .u8 (x1 % 128), .bool (decide (128 ≤ x0)), .bool (decide (128 ≤ x1)), .int .u8 0, .int .u8 0, .bool false, .slice none 0 0], .int .i64 0]) (by simp [results, Try.results13, go_sem]) rfl ⟨rfl, (hb1.alloc (by have := hz1.out; omega) _).alloc (by have := hz1.out; simp; omega) _⟩

set_option maxRecDepth 100000 in
set_option maxHeartbeats 1000000 in
theorem decode_one (g off cap : Nat) (x0 x1 x2 x3 : Int) (w : World) (hcap : 4 ≤ cap) (h0 : 0 ≤ x0) (h0' : x0 ≤ 255) (h1 : 0 ≤ x1) (h1' : x1 ≤ 255) (h2 : 0 ≤ x2) (h2' : x2 ≤ 255) (h3 : 0 ≤ x3) (h3' : x3 ≤ 255) (hx : x2 % 64 = 1)
    (c0 : w.cell? ⟨g, off, none⟩ = some (.int .u8 x0)) (c1 : w.cell? ⟨g, off + 1, none⟩ = some (.int .u8 x1)) (c2 : w.cell? ⟨g, off + 2, none⟩ = some (.int .u8 x2)) (c3 : w.cell? ⟨g, off + 3, none⟩ = some (.int .u8 x3)) :
    Calls Try.prog 13 #[.slice (some ⟨g, off, none⟩) 4 cap] w fun e w' => e = .returned (.tuple #[.agg #[.int .u8 (x0 % 128), .int .u8 (x1 % 128), .bool (decide (128 ≤ x0)), .bool (decide (128 ≤ x1)), .int .u8 1, .int .u8 (x3 % 8), .bool false, .slice none 0 0], .int .i64 0]) ∧ Below w.heap.size w w' := by
  have hlen : ∀ W, Calls Try.prog 22 #[.int .i64 1] W fun e w' => e = .returned (.int .u8 1) ∧ w' = W := fun W => length_any 1 W (by omega)
  have ha : Go.bits BinOp.and IntKind.u8 x2 63 = 1 := (and63 x2 h2 h2').trans hx
  have hs0 := fun W => split_any x0 W h0 h0'
  have hs1 := fun W => split_any x1 W h1 h1'
  have hlt : g < w.heap.size := World.block_lt_of_cell? w ⟨g, off, none⟩ c0
  have c2' : (w.alloc (.cells #[.int .u8 0, .int .u8 0, .bool false, .bool false, .int .u8 0, .int .u8 0, .bool false, .slice none 0 0] 24)).cell? ⟨g, off + 2, none⟩ = some (.int .u8 x2) := by
    rw [((Below.refl w.heap.size w).alloc (Nat.le_refl _) _).cell (p := ⟨g, off + 2, none⟩) hlt]; exact c2
  have ha3 : Go.bits BinOp.and IntKind.u8 x3 7 = x3 % 8 := and7 x3 h3 h3'
  clear c2 hx
  go_enter Try.func13, Try.ntmps13
  go_wp2
  go_quiet ((go_at_call 22; exact Calls.quiet_of_same (hlen _)))
  rw [alloc_drewN, show w.heap.size = (w.drewN nq).heap.size from rfl]
  have hb1 : Below w.heap.size w (w.drewN nq) := below_drewN (Below.refl _ _) _
  have hz1 : Hid ((w.drewN nq).heap.size = w.heap.size) := Eq.refl w.heap.size
  have d0 : (w.drewN nq).cell? ⟨g, off, none⟩ = some (.int .u8 x0) := c0
  have d1 : (w.drewN nq).cell? ⟨g, off + 1, none⟩ = some (.int .u8 x1) := c1
  have d3 : (w.drewN nq).cell? ⟨g, off + 3, none⟩ = some (.int .u8 x3) := c3
  have hlt1 : g < (w.drewN nq).heap.size := hlt
  generalize w.drewN nq = w1 at hb1 hz1 d0 d1 d3 hlt1 ⊢
  clear c0 c1 c2' c3 ha hlt
  go_wp2_with (first
    | (go_at_call 23; refine (hs0 _).mono ?_; rintro e w' ⟨rfl, hw'⟩; obtain rfl := hw'.symm; clear hw')
    | (go_at_call 23; refine (hs1 _).mono ?_; rintro e w' ⟨rfl, hw'⟩; obtain rfl := hw'.symm; clear hw'))
  all_goals refine bodyPost_ret (v := .tuple #[.agg #[.int .u8 (x0 % 128), .int .u8 (x1 % 128), .bool (decide (128 ≤ x0)), .bool (decide (128 ≤ x1)), .int .u8 1, .int .u8 (x3 % 8), .bool false, .slice none 0 0], .int .i64 0]) (by simp [results, Try.results13, go_sem]) rfl ⟨rfl, (hb1.alloc (by have := hz1.out; omega) _).alloc (by have := hz1.out; simp; omega) _⟩

set_option maxRecDepth 100000 in
set_option maxHeartbeats 1000000 in
theorem decode_two (g off cap : Nat) (x0 x1 x2 x3 : Int) (w : World) (hcap : 5 ≤ cap) (h0 : 0 ≤ x0) (h0' : x0 ≤ 255) (h1 : 0 ≤ x1) (h1' : x1 ≤ 255) (h2 : 0 ≤ x2) (h2' : x2 ≤ 255) (h3 : 0 ≤ x3) (h3' : x3 ≤ 255) (hx : x2 % 64 = 2)
    (c0 : w.cell? ⟨g, off, none⟩ = some (.int .u8 x0)) (c1 : w.cell? ⟨g, off + 1, none⟩ = some (.int .u8 x1)) (c2 : w.cell? ⟨g, off + 2, none⟩ = some (.int .u8 x2)) (c3 : w.cell? ⟨g, off + 3, none⟩ = some (.int .u8 x3)) :
    Calls Try.prog 13 #[.slice (some ⟨g, off, none⟩) 5 cap] w fun e w' => e = .returned (.tuple #[.agg #[.int .u8 (x0 % 128), .int .u8 (x1 % 128), .bool (decide (128 ≤ x0)), .bool (decide (128 ≤ x1)), .int .u8 1, .int .u8 (x3 % 8), .bool true, .slice none 0 0], .int .i64 0]) ∧ Below w.heap.size w w' := by
  have hlen : ∀ W, Calls Try.prog 22 #[.int .i64 2] W fun e w' => e = .returned (.int .u8 2) ∧ w' = W := fun W => length_any 2 W (by omega)
  have ha : Go.bits BinOp.and IntKind.u8 x2 63 = 2 := (and63 x2 h2 h2').trans hx
  have hs0 := fun W => split_any x0 W h0 h0'
  have hs1 := fun W => split_any x1 W h1 h1'
  have hlt : g < w.heap.size := World.block_lt_of_cell? w ⟨g, off, none⟩ c0
  have c2' : (w.alloc (.cells #[.int .u8 0, .int .u8 0, .bool false, .bool false, .int .u8 0, .int .u8 0, .bool false, .slice none 0 0] 24)).cell? ⟨g, off + 2, none⟩ = some (.int .u8 x2) := by
    rw [((Below.refl w.heap.size w).alloc (Nat.le_refl _) _).cell (p := ⟨g, off + 2, none⟩) hlt]; exact c2
  have ha3 : Go.bits BinOp.and IntKind.u8 x3 7 = x3 % 8 := and7 x3 h3 h3'
  clear c2 hx
  go_enter Try.func13, Try.ntmps13
  go_wp2
  go_quiet ((go_at_call 22; exact Calls.quiet_of_same (hlen _)))
  rw [alloc_drewN, show w.heap.size = (w.drewN nq).heap.size from rfl]
  have hb1 : Below w.heap.size w (w.drewN nq) := below_drewN (Below.refl _ _) _
  have hz1 : Hid ((w.drewN nq).heap.size = w.heap.size) := Eq.refl w.heap.size
  have d0 : (w.drewN nq).cell? ⟨g, off, none⟩ = some (.int .u8 x0) := c0
  have d1 : (w.drewN nq).cell? ⟨g, off + 1, none⟩ = some (.int .u8 x1) := c1
  have d3 : (w.drewN nq).cell? ⟨g, off + 3, none⟩ = some (.int .u8 x3) := c3
  have hlt1 : g < (w.drewN nq).heap.size := hlt
  generalize w.drewN nq = w1 at hb1 hz1 d0 d1 d3 hlt1 ⊢
  clear c0 c1 c2' c3 ha hlt
  go_wp2_with (first
    | (go_at_call 23; refine (hs0 _).mono ?_; rintro e w' ⟨rfl, hw'⟩; obtain rfl := hw'.symm; clear hw')
    | (go_at_call 23; refine (hs1 _).mono ?_; rintro e w' ⟨rfl, hw'⟩; obtain rfl := hw'.symm; clear hw'))
  all_goals refine bodyPost_ret (v := .tuple #[.agg #[.int .u8 (x0 % 128), .int .u8 (x1 % 128), .bool (decide (128 ≤ x0)), .bool (decide (128 ≤ x1)), .int .u8 1, .int .u8 (x3 % 8), .bool true, .slice none 0 0], .int .i64 0]) (by simp [results, Try.results13, go_sem]) rfl ⟨rfl, (hb1.alloc (by have := hz1.out; omega) _).alloc (by have := hz1.out; simp; omega) _⟩

end Go.Proofs.Ythkbfbjlkjfkiaa.Tape
