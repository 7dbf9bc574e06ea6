/- The contracts of strings.Builder's WriteByte (of a used builder), of tape's Text, and of the reference's Text and Same. -/
import Derived.Test.YtfjfnfofbhikdaaTape1
import Derived.Lib.UnsafeStr
import Derived.Laws.IdiomStrings
import Derived.Maps.AppendAt
import Derived.RangeFuncBox
namespace Go.Proofs.Ytfjfnfofbhikdaa.Tape
open Go.ChangeShapes Go.WideShapes Go.ChangeAt Go.RowKit

theorem info5 : (Try.prog.info? 5).map (fun i => (i.zero, i.size, i.bytes)) = some (some (.int .u8 0), 1, 1) := by kernel_rfl
theorem info4 : (Try.prog.info? 4).map (fun i => (i.zero, i.size, i.bytes)) = some (some (.bool false), 1, 1) := by kernel_rfl

theorem take_snoc {α : Type} (l : List α) (k : Nat) (h : k < l.length) : l.take (k + 1) = l.take k ++ [l[k]] := List.take_succ_eq_append_getElem h

theorem cells_snoc (bs : List Bool) (k : Nat) (h : k < bs.length) (b : Bool) (c : Int) (hb : bs[k] = b) (hc : c = if b then 49 else 48) :
    Lib.byteCells (txt (bs.take (k + 1))) = Lib.byteCells (txt (bs.take k)) ++ [.int .u8 c] := by
  rw [take_snoc bs k h, hb, txt_snoc, Lib.byteCells_append]
  subst hc
  cases b <;> rfl

/-- string(p) of octets that the slice owns. -/
theorem conv_owns {w : World} {base n : Nat} {v : Value} {l : List UInt8} (h : w.ownsRow base 5 1 v n (Lib.byteCells l)) : (convert 22 9 v).run Try.prog w = .ok (.string ⟨l.toArray⟩) w := by
  have hn : l.length = n := by have := h.1; rw [Lib.byteCells_length] at this; omega
  rcases h.2 with ⟨rfl, h0⟩ | ⟨g, cap, cur, rfl, _⟩
  · have hl : l = [] := List.eq_nil_of_length_eq_zero (by omega)
    subst hl
    exact run_convert_bytes_nil w 22 5 Try.underlying22 Try.underlying5 0 0 9 Try.underlying9
  · subst hn
    exact run_convert_bytes_back w 22 9 5 ⟨g, 0, none⟩ cap l Try.underlying22 Try.underlying5 Try.underlying9 (fun j hj => h.cells rfl j _ (by simp [Lib.byteCells, hj]))

set_option maxRecDepth 100000 in
set_option maxHeartbeats 1000000 in
theorem rtext_any (ao : Option Addr) (cap : Nat) (bs : List Bool) (w : World) (hl : bs.length ≤ 1000000) (h : Reads w ao (bs.map .bool)) :
    Calls Try.prog 35 #[.slice ao bs.length cap] w fun e w' => e = .returned (.string ⟨(txt bs).toArray⟩) ∧ Below w.heap.size w w' := by
  obtain ⟨i0, hi, hz0, hz1, hz2⟩ := info_parts info5
  go_enter Try.func35, Try.ntmps35
  go_wp2
  go_loopw [3, 4] (fun v i wr => ∃ k : Nat, k ≤ bs.length ∧ i = .int .i64 k ∧ wr.ownsRow w.heap.size 5 1 v k (Lib.byteCells (txt (bs.take k))) ∧ Below w.heap.size w wr) (fun _ i _ => bs.length - (intOf i).toNat)
  case atStart => exact ⟨0, by omega, rfl, World.ownsRow_nil _ _ _ _, Below.refl _ _⟩
  case round =>
    obtain ⟨k, hk, rfl, hown, hbl⟩ := hrel
    have hsz := hbl.size
    by_cases hlt : k < bs.length
    · obtain ⟨g, off, rfl, hc0⟩ := h.bool k hlt
      have hc := (hbl.cell (p := ⟨g, off + k, none⟩) (World.block_lt_of_cell? w _ hc0)).trans hc0
      obtain ⟨b, hb⟩ : ∃ b, bs[k] = b := ⟨_, rfl⟩
      rw [hb] at hc
      have HB : Hid (bs[k] = b) := hb
      clear hb hc0
      cases b
      · go_wp2_with (at_builtin; refine wpList_append_own _ rfl _ _ 22 rfl w.heap.size 5 i0 (.int .u8 0) 1 1 Try.underlying22 hi hz0 hz1 hz2 rfl (by decide) _ _ _ rfl (hown.alloc _) ⟨wr.heap.size, 0, none⟩ 1 1 [.int .u8 48] rfl rfl (cell_one_new _ _ _) (by simp [Value.oneCell']) (by unfold maxLen; omega) (by omega) (by simp; omega) ?_; intro v' w2 hown' hgrow _)
        have hbl2 := (hbl.alloc hsz _).grown hgrow (by simp; omega) (fun k hk => (hown.lt k hk).1)
        go_wp2
        go_roundw
        case rel => exact ⟨k + 1, by omega, by go_num, by rw [cells_snoc bs k hlt false 48 HB.out rfl]; exact hown', hbl2⟩
        case measure => simp [intOf]; omega
      · go_wp2_with (at_builtin; refine wpList_append_own _ rfl _ _ 22 rfl w.heap.size 5 i0 (.int .u8 0) 1 1 Try.underlying22 hi hz0 hz1 hz2 rfl (by decide) _ _ _ rfl (hown.alloc _) ⟨wr.heap.size, 0, none⟩ 1 1 [.int .u8 49] rfl rfl (cell_one_new _ _ _) (by simp [Value.oneCell']) (by unfold maxLen; omega) (by omega) (by simp; omega) ?_; intro v' w2 hown' hgrow _)
        have hbl2 := (hbl.alloc hsz _).grown hgrow (by simp; omega) (fun k hk => (hown.lt k hk).1)
        go_wp2
        go_roundw
        case rel => exact ⟨k + 1, by omega, by go_num, by rw [cells_snoc bs k hlt true 49 HB.out rfl]; exact hown', hbl2⟩
        case measure => simp [intOf]; omega
    · have hend : txt (bs.take k) = txt bs := by rw [List.take_of_length_le (by omega)]
      rw [hend] at hown
      clear hend
      have hcv := conv_owns hown
      go_wp2
      go_ret
      exact ⟨rfl, hbl⟩

theorem txt_beq (cs bs : List Bool) : (txt cs == txt bs) = decide (cs = bs) := by
  rw [Bool.eq_iff_iff, beq_iff_eq, decide_eq_true_iff]
  exact ⟨txt_inj, fun e => by rw [e]⟩

set_option maxRecDepth 100000 in
set_option maxHeartbeats 1000000 in
theorem rsame_any (ao bo : Option Addr) (ca cb : Nat) (cs bs : List Bool) (w : World) (hl : cs.length ≤ 1000000) (hl' : bs.length ≤ 1000000) (ha : Reads w ao (cs.map .bool)) (hb : Reads w bo (bs.map .bool)) :
    Calls Try.prog 13 #[.slice ao cs.length ca, .slice bo bs.length cb] w fun e w' => e = .returned (.bool (decide (cs = bs))) ∧ Below w.heap.size w w' := by
  go_enter Try.func13, Try.ntmps13
  go_wp2_with fail
  refine (rtext_any _ _ _ _ hl ha).mono ?_
  rintro e w1 ⟨rfl, hb1⟩
  have hb' := hb.below (Nat.le_refl _) hb1
  go_wp2_with fail
  refine (rtext_any _ _ _ _ hl' hb').mono ?_
  rintro e w2 ⟨rfl, hb2⟩
  go_wp2
  go_ret
  exact ⟨by rw [← txt_beq] <;> rfl, hb1.trans (hb2.mono hb1.size)⟩
end Go.Proofs.Ytfjfnfofbhikdaa.Tape
