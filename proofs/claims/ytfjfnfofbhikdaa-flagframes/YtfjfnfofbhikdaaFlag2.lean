/- The contracts of flag's Frame and Judge, and of the reference's. -/
import Derived.Test.YtfjfnfofbhikdaaFlag1
namespace Go.Proofs.Ytfjfnfofbhikdaa.Tape
open Go.ChangeShapes Go.WideShapes Go.ChangeAt Go.RowKit

/-- Where a slice's memory lies: from B on, and it is there. -/
def Lies (w : World) (B : Nat) (ao : Option Addr) : Prop := ∀ x, ao = some x → B ≤ x.block ∧ x.block < w.heap.size
theorem Lies.none (w : World) (B : Nat) : Lies w B Option.none := fun x h => by cases h
theorem Lies.mono {w w' : World} {B B' : Nat} {ao : Option Addr} (h : Lies w B ao) (hB : B' ≤ B) (hw : w.heap.size ≤ w'.heap.size) : Lies w' B' ao := fun x hx => ⟨Nat.le_trans hB (h x hx).1, Nat.lt_of_lt_of_le (h x hx).2 hw⟩
theorem owns_lies {w : World} {base : Nat} {e : TypeId} {s n cap m : Nat} {ao : Option Addr} {vs : List Value} (h : w.ownsRow base e s (.slice ao n cap) m vs) : Lies w base ao := fun x hx => by
  subst hx
  exact h.lt x.block rfl

set_option maxRecDepth 100000 in
set_option maxHeartbeats 1000000 in
theorem frame_ok (ao : Option Addr) (cap n : Nat) (xs : List Int) (w : World) (hn : xs.length = n) (h3 : 3 ≤ n) (hl : n ≤ 277) (hx : ∀ x ∈ xs, 0 ≤ x ∧ x ≤ 255) (hnil : ao = none → cap = 0) (h : Reads w ao (xs.map (.int .u8))) :
    Calls Try.prog 11 #[.slice ao n cap] w fun e w' => ∃ v, e = .returned (.tuple #[v, .int .i64 0]) ∧ w'.ownsRow w.heap.size 4 1 v (frm xs).length ((frm xs).map .bool) ∧ Below w.heap.size w w' := by
  have hft : ∀ w : World, Calls Try.prog 28 #[.int .i64 ((n : Int) + 2)] w fun e w' => e = .returned (.int .i64 0) ∧ w' = w := fun w => by
    have := fits_any (n + 2) w (by omega)
    rw [if_neg (by omega), if_neg (by omega)] at this
    exact this
  have hpl := (put_len (bits (xs ++ chk xs)) 0)
  have hsz := sz_le (bits (xs ++ chk xs)) 0 (by omega)
  have hbl : (bits (xs ++ chk xs)).length = 8 * (n + 2) := by rw [bits_len, List.length_append, hn]; rfl
  have hpl' : (put (bits (xs ++ chk xs))).length ≤ 20000 := by show (putFrom _ 0).length ≤ _; omega
  have HBL : Hid ((bits (xs ++ chk xs)).length = 8 * (n + 2)) := hbl
  have HWL : Hid ((xs ++ chk xs).length = n + 2) := by show _ = _; rw [List.length_append, hn]; rfl
  have HFL : Hid ((frm xs).length = (put (bits (xs ++ chk xs))).length + 8) := by show _ = _; rw [frm, List.length_append]; rfl
  clear hpl hsz hbl
  go_enter Try.func11, Try.ntmps11
  go_wp2_with fail
  refine (hft _).mono ?_
  rintro e w0 ⟨rfl, hw0⟩
  obtain rfl := hw0.symm
  clear hw0 hft
  go_wp2_with fail
  refine (with_any _ _ _ _ _ hn (by omega) hx hnil h).mono ?_
  rintro e w1 ⟨v1, rfl, hown1, hb1⟩
  obtain ⟨vo1, ca1, rfl, -, hr1, -⟩ := owns_form hown1
  have hof := of_any vo1 ca1 (xs ++ chk xs) w1 (by rw [HWL.out]; omega) (whole_range xs hx) hr1
  rw [HWL.out] at hof
  go_wp2_with fail
  refine hof.mono ?_
  rintro e w2 ⟨v2, rfl, hown2, hb2⟩
  obtain ⟨vo2, ca2, rfl, -, hr2, -⟩ := owns_form hown2
  have hB2 := hb1.trans (hb2.mono hb1.size)
  clear hof hown1 hr1 hown2
  go_wp2_with fail
  refine (put_any _ _ _ _ _ HBL.out (by omega) hr2).mono ?_
  rintro e w3 ⟨v3, rfl, hown3, hb3⟩
  have hB3 := hB2.trans (hb3.mono hB2.size)
  have hown3' := owns_lower hown3 hB2.size
  obtain ⟨K, hK⟩ : ∃ K, (put (bits (xs ++ chk xs))).length = K := ⟨_, rfl⟩
  have HK : Hid ((put (bits (xs ++ chk xs))).length = K) := hK
  rw [hK] at hown3' hpl'
  clear hK hown3 hr2 hb1 hb2 hb3
  go_wp2_with fail
  refine (flag_any _).mono ?_
  rintro e w4 ⟨v4, rfl, hown4, hb4⟩
  have hown5 := owns_below hown3' hb4
  obtain ⟨vo4, ca4, rfl, -, hr4, hv4⟩ := owns_form hown4
  have hB4 := hB3.trans (hb4.mono hB3.size)
  have hsz4 := hB4.size
  clear hown4 hown3' hb4 hB3 hB2
  go_wp2_with (at_builtin; refine append_bits rfl 27 Try.underlying27 _ _ rfl w.heap.size _ _ _ rfl hown5 vo4 8 ca4 flg rfl rfl hr4 (by rintro rfl; rcases hv4 with ⟨_, h, _⟩ | ⟨g, hg⟩ <;> simp_all) (by omega) hsz4 ?_; intro v5 w5 hown6 hb5 _)
  go_ret2
  refine ⟨_, rfl, ?_, hB4.trans hb5⟩
  rw [HFL.out, HK.out, frm, List.map_append]
  exact hown6

set_option maxRecDepth 100000 in
set_option maxHeartbeats 400000 in
theorem frame_bad (ao : Option Addr) (cap n : Nat) (w : World) (hl : n ≤ 100000) (h : n < 3 ∨ 277 < n) :
    Calls Try.prog 11 #[.slice ao n cap] w fun e w' => e = .returned (.tuple #[.slice none 0 0, .int .i64 (if n < 3 then 5 else 6)]) ∧ w' = w := by
  by_cases h3 : n < 3
  · have hft : ∀ w : World, Calls Try.prog 28 #[.int .i64 ((n : Int) + 2)] w fun e w' => e = .returned (.int .i64 5) ∧ w' = w := fun w => by
      have := fits_any (n + 2) w (by omega)
      rw [if_pos (by omega)] at this
      exact this
    clear h
    go_enter Try.func11, Try.ntmps11
    go_wp2_with fail
    refine (hft _).mono ?_
    rintro e w0 ⟨rfl, hw0⟩
    obtain rfl := hw0.symm
    clear hw0 hft
    go_wp2
    go_ret2
    exact ⟨by simp, rfl⟩
  · have hft : ∀ w : World, Calls Try.prog 28 #[.int .i64 ((n : Int) + 2)] w fun e w' => e = .returned (.int .i64 6) ∧ w' = w := fun w => by
      have := fits_any (n + 2) w (by omega)
      rw [if_neg (by omega), if_pos (by omega)] at this
      exact this
    clear h
    go_enter Try.func11, Try.ntmps11
    go_wp2_with fail
    refine (hft _).mono ?_
    rintro e w0 ⟨rfl, hw0⟩
    obtain rfl := hw0.symm
    clear hw0 hft
    go_wp2
    go_ret2
    exact ⟨by simp, rfl⟩

set_option maxRecDepth 100000 in
set_option maxHeartbeats 1000000 in
theorem rframe_any (ao : Option Addr) (cap n : Nat) (xs : List Int) (w : World) (hn : xs.length = n) (hl : n ≤ 1000) (hx : ∀ x ∈ xs, 0 ≤ x ∧ x ≤ 255) (hnil : ao = none → cap = 0) (h : Reads w ao (xs.map (.int .u8))) :
    Calls Try.prog 14 #[.slice ao n cap] w fun e w' => ∃ v, e = .returned v ∧ w'.ownsRow w.heap.size 4 1 v (frm xs).length ((frm xs).map .bool) ∧ Below w.heap.size w w' := by
  have hpl := (put_len (bits (xs ++ chk xs)) 0)
  have hsz := sz_le (bits (xs ++ chk xs)) 0 (by omega)
  have hbl : (bits (xs ++ chk xs)).length = 8 * (n + 2) := by rw [bits_len, List.length_append, hn]; rfl
  have hpl' : (put (bits (xs ++ chk xs))).length ≤ 20000 := by show (putFrom _ 0).length ≤ _; omega
  have HBL : Hid ((bits (xs ++ chk xs)).length = 8 * (n + 2)) := hbl
  have HWL : Hid ((xs ++ chk xs).length = n + 2) := by show _ = _; rw [List.length_append, hn]; rfl
  have HFL : Hid ((frm xs).length = (put (bits (xs ++ chk xs))).length + 8) := by show _ = _; rw [frm, List.length_append]; rfl
  clear hpl hsz hbl
  go_enter Try.func14, Try.ntmps14
  go_wp2_with fail
  refine (whole_any _ _ _ _ _ hn (by omega) hx hnil h).mono ?_
  rintro e w1 ⟨v1, rfl, hown1, hb1⟩
  obtain ⟨vo1, ca1, rfl, -, hr1, -⟩ := owns_form hown1
  go_wp2_with fail
  refine (rbits_n _ _ _ (xs ++ chk xs) _ HWL.out (by omega) (whole_range xs hx) hr1).mono ?_
  rintro e w2 ⟨v2, rfl, hown2, hb2⟩
  obtain ⟨vo2, ca2, rfl, -, hr2, -⟩ := owns_form hown2
  have hB2 := hb1.trans (hb2.mono hb1.size)
  clear hown1 hr1 hown2
  go_wp2_with fail
  refine (rput_any _ _ _ _ _ HBL.out (by omega) hr2).mono ?_
  rintro e w3 ⟨v3, rfl, hown3, hb3⟩
  have hB3 := hB2.trans (hb3.mono hB2.size)
  have hown3' := owns_lower hown3 hB2.size
  obtain ⟨K, hK⟩ : ∃ K, (put (bits (xs ++ chk xs))).length = K := ⟨_, rfl⟩
  have HK : Hid ((put (bits (xs ++ chk xs))).length = K) := hK
  rw [hK] at hown3' hpl'
  clear hK hown3 hr2 hb1 hb2 hb3
  go_wp2_with fail
  refine (rflag_any _).mono ?_
  rintro e w4 ⟨v4, rfl, hown4, hb4⟩
  have hown5 := owns_below hown3' hb4
  obtain ⟨vo4, ca4, rfl, -, hr4, hv4⟩ := owns_form hown4
  have hB4 := hB3.trans (hb4.mono hB3.size)
  have hsz4 := hB4.size
  clear hown4 hown3' hb4 hB3 hB2
  go_wp2_with (at_builtin; refine append_bits rfl 26 Try.underlying26 _ _ rfl w.heap.size _ _ _ rfl hown5 vo4 8 ca4 flg rfl rfl hr4 (by rintro rfl; rcases hv4 with ⟨_, h, _⟩ | ⟨g, hg⟩ <;> simp_all) (by omega) hsz4 ?_; intro v5 w5 hown6 hb5 _)
  go_ret
  refine ⟨_, rfl, ?_, hB4.trans hb5⟩
  rw [HFL.out, HK.out, frm, List.map_append]
  exact hown6
end Go.Proofs.Ytfjfnfofbhikdaa.Tape
