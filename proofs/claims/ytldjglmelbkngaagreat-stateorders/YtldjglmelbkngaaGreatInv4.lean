/- What a State that came of a new one answers; no walk. -/
import Derived.Test.YtldjglmelbkngaaGreatInv3
namespace Go.Proofs.YtldjglmelbkngaaGreat.Tape
open Go.ChangeShapes Go.WideShapes Go.ChangeAt Go.RowKit
set_option linter.unusedVariables false

/-- What the law wants of an order: by the state, whether it may go on, whether it is full. -/
def wantE (s : Int) (cl fu : Bool) (k : Int) (n : Nat) : Int :=
  if k = 1 then (if s ≠ 0 then 9 else 0)
  else if k = 2 then (if s = 0 then 9 else 0)
  else if k = 5 then (if ¬ (s = 4 ∨ s = 5) then 12 else if n < 3 then 5 else if 273 < n then 6 else if fu = true then 3 else 0)
  else if k = 9 then (if cl = false then 9 else 0)
  else if k = 10 ∨ k = 11 then (if ¬ (s = 4 ∨ s = 5) then 9 else 0)
  else if k = 3 ∨ k = 4 ∨ k = 6 ∨ k = 7 ∨ k = 8 then 0
  else 1
theorem ord_want {x : St} (h : Iv x) (k : Int) (p : List Int) :
    x.ordE k p = wantE x.s (!x.own && !x.their) (decide (16 ≤ (x.hs.sent.length : Int) + x.hs.next.length) || decide (600 < ((sz x.hs.sent + sz x.hs.next : Nat) : Int) + p.length)) k p.length := by
  have hm := h.hs
  unfold St.ordE wantE
  split
  · unfold St.beginE
    by_cases h0 : x.s = 0
    · rw [if_pos h0, if_neg (fun e => e h0)]
    · rw [if_neg h0, if_pos h0]
  · split
    · rfl
    · split
      · unfold St.putE St.inUse
        by_cases hu : x.s = 4 ∨ x.s = 5
        · rw [decide_eq_true hu, if_pos rfl, if_neg (fun e => e hu)]
          unfold Hs.putE
          rw [hm.1, hm.2]
          split
          · rfl
          · split
            · rfl
            · split
              · rename_i hc
                rw [if_pos]
                rw [Bool.or_eq_true, decide_eq_true_iff, decide_eq_true_iff]
                omega
              · rename_i hc
                rw [if_neg]
                rw [Bool.or_eq_true, decide_eq_true_iff, decide_eq_true_iff]
                omega
        · rw [decide_eq_false hu, if_neg (by decide), if_pos hu]
      · split
        · unfold St.resumeE goes
          cases x.own <;> cases x.their <;> rfl
        · split
          · unfold St.busyE St.inUse
            by_cases hu : x.s = 4 ∨ x.s = 5
            · rw [decide_eq_true hu, if_pos rfl, if_neg (fun e => e hu)]
            · rw [decide_eq_false hu, if_neg (by decide), if_pos hu]
          · rfl
/-- Where an order is refused the state stays. -/
theorem ord_stays {x : St} (k : Int) (p : List Int) (h : x.ordE k p ≠ 0) : (x.ord k p).s = x.s := by
  revert h
  unfold St.ordE St.ord
  split
  · unfold St.beginE St.begin_
    split
    · exact fun e => absurd rfl e
    · exact fun _ => rfl
  · split
    · unfold St.stopE St.stopO St.fail
      split
      · exact fun _ => rfl
      · exact fun e => absurd rfl e
    · split
      · rename_i h5
        intro _
        rw [if_neg (show ¬ (k = 3 ∨ k = 4) by omega)]
        unfold St.put_
        split <;> rfl
      · split
        · rename_i h9
          unfold St.resumeE
          intro hr
          rw [if_neg (show ¬ (k = 3 ∨ k = 4) by omega), if_neg (show ¬ (k = 6 ∨ k = 7) by omega), if_neg (show ¬ k = 8 by omega)]
          unfold St.resume
          split at hr
          · exact absurd rfl hr
          · rename_i hg
            rw [if_neg hg]
        · split
          · rename_i h10
            intro _
            rw [if_neg (show ¬ (k = 3 ∨ k = 4) by omega), if_neg (show ¬ (k = 6 ∨ k = 7) by omega), if_neg (show ¬ k = 8 by omega)]
            unfold St.busy
            split
            · split <;> rfl
            · rfl
          · split
            · exact fun e => absurd rfl e
            · rename_i h1 h2 h5 h9 h10 h3
              intro _
              try rfl
              try rw [if_neg (by omega)]
              try rw [if_neg (by omega)]
              try rw [if_neg (by omega)]
theorem LA.octets {w0 w : World} {P : Pl} {k : Nat} {x : St} {K : World → (Nat → Prop) → Prop} (h : LA w0 P k x K w) : Calls Tryz.prog 33 #[.pointer (some ⟨P.hb, 0, none⟩)] w fun e w' => e = .returned (.int .i64 ((sz x.hs.sent + sz x.hs.next : Nat) : Int)) ∧ ∃ q, w' = w.drewN q := h.holdAt.elim fun T0 hh => octets_any P.hb P.B T0 x.hs w hh
theorem LA.nums {w0 w : World} {P : Pl} {k : Nat} {x : St} {K : World → (Nat → Prop) → Prop} (h : LA w0 P k x K w) (hI : Iv x) : x.hs.sent.length + x.hs.next.length ≤ 16 ∧ sz x.hs.sent + sz x.hs.next ≤ 600 := by
  obtain ⟨T0, hh⟩ := h.holdAt
  have h1 := hh.fine.room
  have h2 := hh.fine.size
  rw [hI.hs.1] at h1
  rw [hI.hs.2] at h2
  omega
end Go.Proofs.YtldjglmelbkngaaGreat.Tape
