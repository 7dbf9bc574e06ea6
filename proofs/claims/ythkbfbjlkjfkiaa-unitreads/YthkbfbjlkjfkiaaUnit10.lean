/- A unit that came in, opened; the law's awake. -/
import Derived.Test.YthkbfbjlkjfkiaaUnit9
import Derived.Lib.SmallJoins
namespace Go.Proofs.Ythkbfbjlkjfkiaa.Tape
open Go.ChangeShapes Go.WideShapes Go.ChangeAt Go.RowKit

/-- What a law is told of a unit that came in. -/
def IsUnit (w : World) (v : Value) : Prop :=
  ∃ (b f : Int) (p q : Bool) (k s : Int) (wd : Bool) (ao : Option Addr) (n cap : Nat) (xs : List Int),
    v = .agg #[.int .u8 b, .int .u8 f, .bool p, .bool q, .int .u8 k, .int .u8 s, .bool wd, .slice ao n cap] ∧
    (0 ≤ b ∧ b ≤ 255) ∧ (0 ≤ f ∧ f ≤ 255) ∧ (0 ≤ k ∧ k ≤ 255) ∧ (0 ≤ s ∧ s ≤ 255) ∧ xs.length = n ∧ n ≤ cap ∧ cap ≤ maxLen ∧ (ao = none → cap = 0) ∧ Reads w ao (xs.map (.int .u8)) ∧ ∀ x ∈ xs, 0 ≤ x ∧ x ≤ 255

theorem array8 {α : Type} {cs : Array α} (h : cs.size = 8) : ∃ c0 c1 c2 c3 c4 c5 c6 c7, cs = #[c0, c1, c2, c3, c4, c5, c6, c7] := by
  obtain ⟨l⟩ := cs
  match l, h with
  | [c0, c1, c2, c3, c4, c5, c6, c7], _ => exact ⟨c0, c1, c2, c3, c4, c5, c6, c7, rfl⟩

theorem cells24 : Try.prog.cellsOf 24 = 8 := by kernel_rfl
theorem cells22 : Try.prog.cellsOf 22 = 1 := by kernel_rfl
theorem cells5 : Try.prog.cellsOf 5 = 1 := by kernel_rfl
theorem cells4 : Try.prog.cellsOf 4 = 1 := by kernel_rfl

theorem unit_open {H : Type} {enc : TypeId × Value → H} {W : World} {r : Reach} {b0 : Nat} {v : Value} {d : DataW H} {ps : List MemPlace} (hv : Value.okWide Try.prog W r b0 24 v)
    (h : DataW.Trod enc Try.prog W 0 (fun _ => true) true 24 v d ps) : IsUnit W v := by
  obtain ⟨cs, rfl, hsz⟩ := okWide_struct Try.underlying24 hv
  obtain ⟨c0, c1, c2, c3, c4, c5, c6, c7, rfl⟩ := array8 (hsz.trans cells24)
  obtain ⟨fuel, hf⟩ := h
  obtain ⟨xs, n, -, -, -, hlen, hfs⟩ := DataW.trod_struct Try.underlying24 hf
  match xs, hlen with
  | [y0, y1, y2, y3, y4, y5, y6, y7], _ =>
    have t0 := hfs 0 _ rfl
    have t1 := hfs 1 _ rfl
    have t2 := hfs 2 _ rfl
    have t3 := hfs 3 _ rfl
    have t4 := hfs 4 _ rfl
    have t5 := hfs 5 _ rfl
    have t6 := hfs 6 _ rfl
    have t7 := hfs 7 _ rfl
    simp [Value.cells, cells22, cells5, cells4] at t0 t1 t2 t3 t4 t5 t6 t7
    obtain ⟨b, e0, -, wb⟩ := DataW.trod_int Try.underlying5 t0
    obtain ⟨f, e1, -, wf⟩ := DataW.trod_int Try.underlying5 t1
    obtain ⟨p, e2, -⟩ := DataW.trod_bool Try.underlying4 t2
    obtain ⟨q, e3, -⟩ := DataW.trod_bool Try.underlying4 t3
    obtain ⟨k, e4, -, wk⟩ := DataW.trod_int Try.underlying5 t4
    obtain ⟨s, e5, -, ws⟩ := DataW.trod_int Try.underlying5 t5
    obtain ⟨wd, e6, -⟩ := DataW.trod_bool Try.underlying4 t6
    simp only [List.cons.injEq, and_true] at e0 e1 e2 e3 e4 e5 e6
    subst e0 e1 e2 e3 e4 e5 e6
    have B0 := bounds_u8 wb
    have B1 := bounds_u8 wf
    have B4 := bounds_u8 wk
    have B5 := bounds_u8 ws
    rcases open_ints Try.underlying22 Try.underlying5 (by kernel_rfl) t7 with ⟨hcs, _⟩ | ⟨x, l, c, zs, hcs, _, hl, hm, hz, _, hcell, hwz⟩
    · simp at hcs
      subst hcs
      exact ⟨b, f, p, q, k, s, wd, none, 0, 0, [], rfl, B0, B1, B4, B5, rfl, Nat.le_refl _, Nat.zero_le _, fun _ => rfl, Reads.nil _ _, by simp⟩
    · simp at hcs
      subst hcs
      simp at hz
      exact ⟨b, f, p, q, k, s, wd, some x, l, c, zs.take l, rfl, B0, B1, B4, B5, by simp; omega, hl, hm, (fun h => by cases h), Reads.of_bytes hcell (by omega), fun y hy => bounds_u8 (hwz y (List.mem_of_mem_take hy))⟩

set_option maxRecDepth 100000 in
set_option maxHeartbeats 1000000 in
theorem awake6_any (w : World) : Calls Try.prog 8 #[] w fun e w' => e = .returned (.bool true) ∧ Below w.heap.size w w' := by
  have hE := encode_ok 1 2 true false 1 2 false none 0 0 [] w (by decide) (by decide) (by decide) (by decide) (by decide) (by decide) (by decide) rfl (by decide) (Reads.nil _ _) (fun _ => rfl)
  rw [show (enc 1 2 true false 1 2 false []).map (Value.int .u8) = [129, 2, 1, 2].map (Value.int .u8) from rfl, show 3 + (bod 1 2 false []).length = 4 from rfl] at hE
  go_enter Try.func8, Try.ntmps8
  go_wp2_with fail
  refine hE.mono ?_
  rintro e w1 ⟨v, rfl, hown, hb1⟩
  obtain ⟨vo, ca, rfl, hca, hr, -⟩ := owns_form hown
  have hc := conv_reads (cap := ca) (show ([129, 2, 1, 2] : List Int).length = 4 from rfl) hr
  have HB : Hid (Below w.heap.size w w1) := hb1
  clear hE hown hr hb1
  go_wp2
  go_ret
  exact ⟨ret_bool (by rw [ByteArray.toList_eq]; decide), HB.out⟩
end Go.Proofs.Ythkbfbjlkjfkiaa.Tape
