/- A slice of slices of octets that came in; the contract of the flag laws' own short. -/
import Derived.Test.YtfjfnfofbhikdaaHear3
namespace Go.Proofs.Ytfjfnfofbhikdaa.Tape
open Go.ChangeShapes Go.WideShapes Go.ChangeAt Go.RowKit

structure RV where
  ao : Option Addr
  n : Nat
  cap : Nat
  xs : List Int
structure RV.Ok (w : World) (r : RV) : Prop where
  len : r.xs.length = r.n
  cap : r.n ≤ r.cap
  big : r.cap ≤ maxLen
  reads : Reads w r.ao (r.xs.map (.int .u8))
  nil : r.ao = none → r.cap = 0
  range : ∀ x ∈ r.xs, 0 ≤ x ∧ x ≤ 255
/-- The slice that begins at lo reads the rows ls. -/
def Lots (w : World) (lo : Option Addr) (ls : List RV) : Prop := ∀ k r, ls[k]? = some r → ∃ g off, lo = some ⟨g, off, none⟩ ∧ w.cell? ⟨g, off + k, none⟩ = some (.slice r.ao r.n r.cap) ∧ RV.Ok w r
theorem Lots.below {w w' : World} {lo : Option Addr} {ls : List RV} (h : Lots w lo ls) (hb : Below w.heap.size w w') : Lots w' lo ls := fun k r hr => by
  obtain ⟨g, off, e, hc, h1, h2, h3, h4, h5, h6⟩ := h k r hr
  exact ⟨g, off, e, (hb.cell (p := ⟨g, off + k, none⟩) (World.block_lt_of_cell? w _ hc)).trans hc, h1, h2, h3, h4.below (Nat.le_refl _) hb, h5, h6⟩

/-- Few rows, none of them long. -/
def few (ls : List RV) (L : Nat) : Bool := decide ((∀ r ∈ ls, r.n ≤ 60) ∧ L ≤ 12)
theorem few_yes {ls : List RV} {L : Nat} (h : few ls L = true) : (∀ r ∈ ls, r.n ≤ 60) ∧ L ≤ 12 := of_decide_eq_true h

set_option maxRecDepth 100000 in
set_option maxHeartbeats 400000 in
theorem short_any (lo : Option Addr) (L lc : Nat) (ls : List RV) (w : World) (hn : ls.length = L) (hL : L ≤ maxLen) (h : Lots w lo ls) :
    Calls Try.prog 21 #[.slice lo L lc] w fun e w' => e = .returned (.bool (few ls L)) ∧ w' = w := by
  have HN : Hid (ls.length = L) := hn
  have hL' : L ≤ 9223372036854775807 := hL
  clear hn hL
  go_enter Try.func21, Try.ntmps21
  go_wp2
  go_loop [3] (fun i => ∃ k : Nat, k ≤ L ∧ i = .int .i64 k ∧ ∀ j r, j < k → ls[j]? = some r → r.n ≤ 60) (fun i => L - (intOf i).toNat)
  case atStart => exact ⟨0, by omega, rfl, fun j r hj => by omega⟩
  case round =>
    obtain ⟨k, hk, rfl, hall⟩ := hrel
    have HALL : Hid (∀ j r, j < k → ls[j]? = some r → r.n ≤ 60) := hall
    clear hall
    by_cases hlt : k < L
    · have hkl : k < ls.length := by have := HN.out; omega
      have hget : ls[k]? = some ls[k] := List.getElem?_eq_getElem hkl
      have hmem : ls[k] ∈ ls := List.getElem_mem hkl
      obtain ⟨g, off, rfl, hc, hok⟩ := h k _ hget
      have hbig : ls[k].n ≤ 9223372036854775807 := Nat.le_trans hok.cap hok.big
      obtain ⟨x, hx⟩ : ∃ x, x = ls[k] := ⟨_, rfl⟩
      rw [← hx] at hget hc hbig hmem
      have HG : Hid (ls[k]? = some x) := hget
      have HM : Hid (x ∈ ls) := hmem
      obtain ⟨xo, xn, xc, xx⟩ := x
      simp only at hc hbig
      clear hx hget hok hmem
      by_cases h60 : xn ≤ 60
      · go_wp2
        go_round
        case rel =>
          refine ⟨k + 1, by omega, by go_num, fun j r hj hr => ?_⟩
          by_cases e : j = k
          · subst e; rw [HG.out] at hr; cases hr; exact h60
          · exact HALL.out j r (by omega) hr
        case measure => simp [intOf]; omega
      · have HD : Hid (few ls L = false) := by
          show _ = _
          unfold few
          rw [decide_eq_false_iff_not]
          exact fun hh => h60 (hh.1 _ HM.out)
        go_wp2
        go_ret
        exact ⟨ret_bool HD.out.symm, rfl⟩
    · have HD : Hid (few ls L = decide ((L : Int) ≤ 12)) := by
        show _ = _
        unfold few
        have h1 : ∀ r ∈ ls, r.n ≤ 60 := fun r hr => by
          obtain ⟨j, hj, e⟩ := List.getElem_of_mem hr
          exact HALL.out j r (by have := HN.out; omega) (by rw [List.getElem?_eq_getElem hj, e])
        rw [Bool.eq_iff_iff, decide_eq_true_iff, decide_eq_true_iff]
        exact ⟨fun hh => by have := hh.2; omega, fun hh => ⟨h1, by omega⟩⟩
      go_wp2
      go_ret
      exact ⟨ret_bool HD.out.symm, rfl⟩
end Go.Proofs.Ytfjfnfofbhikdaa.Tape
