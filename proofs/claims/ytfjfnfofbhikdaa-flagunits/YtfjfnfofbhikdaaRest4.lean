/- The contract of the reference's Right. -/
import Derived.Test.YtfjfnfofbhikdaaRest3
import Derived.Deep.RegionHeld
import Derived.Lib.SlBytesConst
namespace Go.Proofs.Ytfjfnfofbhikdaa.Tape
open Go.ChangeShapes Go.WideShapes Go.ChangeAt Go.RowKit
attribute [local go_sem ↓] Go.wp_at_zero Go.wp_at_succ

theorem str_list {a b : List Int} (h : (str a).toList = (str b).toList) : str a = str b := by
  rw [ByteArray.toList_eq, ByteArray.toList_eq] at h
  apply ByteArray.ext
  exact Array.toList_inj.1 h

theorem reads_some {w : World} {ao : Option Addr} {vs : List Value} (h : Reads w ao vs) (hl : 0 < vs.length) : ∃ g off, ao = some ⟨g, off, none⟩ := by
  obtain ⟨g, off, e, _⟩ := h 0 vs[0] (by simp [hl])
  exact ⟨g, off, e⟩

set_option maxRecDepth 100000 in
set_option maxHeartbeats 400000 in
theorem rright_any (ao : Option Addr) (cap n : Nat) (xs : List Int) (w : World) (hn : xs.length = n) (hl : n ≤ 100000) (hx : ∀ x ∈ xs, 0 ≤ x ∧ x ≤ 255) (hcap : n ≤ cap) (h : Reads w ao (xs.map (.int .u8))) :
    Calls Try.prog 39 #[.slice ao n cap] w fun e w' => e = .returned (.bool (decide (2 ≤ n ∧ left xs = good))) ∧ Below w.heap.size w w' := by
  by_cases h2 : 2 ≤ n
  · have h2' : decide ((n : Int) ≥ 2) = true := by simp; omega
    obtain ⟨g, off, rfl⟩ := reads_some h (by simp; omega)
    obtain ⟨m, hm⟩ : ∃ m, n = m + 2 := ⟨n - 2, by omega⟩
    have hr1 := (h.take m).below (w' := w.drew) (Nat.le_refl _) ((Below.refl _ _).drew)
    rw [← List.map_take] at hr1
    have hr2 := (h.drop m)
    rw [← List.map_drop] at hr2
    have hck := rcheck_any (some ⟨g, off, none⟩) cap m (xs.take m) w.drew (by simp; omega) (by omega) (fun x hxx => hx x (List.mem_of_mem_take hxx)) hr1
    have e1 : (n : Int) - 2 = (m : Int) := by omega
    have e2 : ¬ cap = m := by omega
    have e3 : n - m = 2 := by omega
    have hcv : ∀ W : World, Below w.heap.size w W → (convert 22 9 (.slice (some ⟨g, off + m, none⟩) 2 (cap - m))).run Try.prog W = .ok (.string (str (xs.drop m))) W := fun W hW =>
      conv_reads (by simp; omega) (hr2.below (Nat.le_refl _) hW)
    have hcv0 := hcv w.drew ((Below.refl _ _).drew)
    have HX : Hid (xs = xs.take m ++ xs.drop m) := (List.take_append_drop m xs).symm
    have HY : Hid ((xs.drop m).length = 2) := by show _ = _; simp; omega
    have h2a : (2 : Int) ≤ (n : Int) := by omega
    have h2b : decide ((2 : Int) ≤ (n : Int)) = true := by simp; omega
    clear hr1 hr2 hm
    have hml : (m : Int) ≤ (cap : Int) := by omega
    have hm0 : (0 : Int) ≤ (m : Int) := by omega
    have hmn : (m : Int) ≤ (n : Int) := by omega
    have ew : IntKind.i64.wrap (m : Int) = (m : Int) := IntWalk.i64_in _ (by omega)
    go_enter Try.func39, Try.ntmps39
    go_wp2_with fail
    go_region_held (fun W => (convert 22 9 (.slice (some ⟨g, off + m, none⟩) 2 (cap - m))).run Try.prog W = .ok (.string (str (xs.drop m))) W) (first | exact hcv0 | exact hcv _ (by assumption)) (first | (go_at_call 36; refine hck.mono ?_; rintro e w1 ⟨v1, rfl, hown1, hb1⟩; obtain ⟨vo, ca, rfl, hca, hr1, -⟩ := owns_form hown1; have hc1 := conv_reads (cap := ca) (show (chk (xs.take m)).length = 2 from rfl) hr1; have hB1 : Below w.heap.size w w1 := ((Below.refl _ _).drew).trans (hb1.mono (by simp))))
    go_wp2
    go_ret
    refine ⟨ret_bool ?_, hB1⟩
    rw [Bool.eq_iff_iff, beq_iff_eq, decide_eq_true_iff]
    have hyr : ∀ y ∈ xs.drop m, 0 ≤ y ∧ y ≤ 255 := fun y hy => hx y (List.mem_of_mem_drop hy)
    have hr := right_iff (xs.take m) (xs.drop m) HY.out hyr
    rw [← HX.out] at hr
    rw [hr]
    constructor
    · exact fun e => ⟨h2, str_inj (two_range _) hyr (str_list e)⟩
    · rintro ⟨_, e⟩; rw [e]
  · have h2' : decide ((n : Int) ≥ 2) = false := by simp; omega
    go_enter Try.func39, Try.ntmps39
    go_wp2_with fail
    go_quiet (fail)
    go_wp2
    go_ret
    exact ⟨ret_bool (by simp [h2]), below_drewN (Below.refl _ _) _⟩

theorem reads_lit (w : World) (l : List Int) (fr : Nat × Nat) : Reads (w.alloc (.cells (l.map (Value.int .u8)).toArray 5 fr)) (some ⟨w.heap.size, 0, none⟩) (l.map (.int .u8)) := fun k v hk => by
  refine ⟨_, _, rfl, ?_⟩
  have h := heap_alloc_new w (.cells (l.map (Value.int .u8)).toArray 5 fr)
  unfold World.cell?
  rw [h]
  simpa using hk

theorem chk9 : chk [49, 50, 51, 52, 53, 54, 55, 56, 57] = [110, 144] := by decide +kernel

/-- What a law is told of the capacity of a slice of octets that came in. -/
theorem row_cap {w : World} {a : Option Addr} {len cap : Nat} {zs : List Int} (h : (a = none ∧ len = 0 ∧ cap = 0 ∧ zs = []) ∨
    ∃ x, a = some x ∧ len ≤ cap ∧ cap ≤ maxLen ∧ zs.length = cap ∧ (∀ i, i < zs.length → w.cell? (x.add i) = some (.int .u8 (zs.getD i 0))) ∧ ∀ n ∈ zs, (Lit.int .u8 n).wf = true) :
    len ≤ cap ∧ cap ≤ maxLen ∧ (a = none → cap = 0) := by
  rcases h with ⟨rfl, rfl, rfl, rfl⟩ | ⟨x, rfl, h1, h2, _⟩
  · exact ⟨Nat.le_refl _, Nat.zero_le _, fun _ => rfl⟩
  · exact ⟨h1, h2, fun h => by cases h⟩
end Go.Proofs.Ytfjfnfofbhikdaa.Tape
