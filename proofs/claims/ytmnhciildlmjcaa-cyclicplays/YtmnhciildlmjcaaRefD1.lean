/- The reference's Put of a cyclic way. -/
import Derived.Test.YtmnhciildlmjcaaRefC9
namespace Go.Proofs.Ytmnhciildlmjcaa.Tape
open Go.ChangeShapes Go.WideShapes Go.ChangeAt Go.RowKit
set_option linter.unusedVariables false

theorem rput_p {w : World} {B : Nat} {s : Hs} {lo : Option Addr} {n cap : Nat} (t : Tail) (hr : PRow w B lo n cap (s.sent ++ s.next)) (hsm : n ≤ 1000) (hB : B ≤ w.heap.size) (ao : Option Addr) (pn pc : Nat) (xs : List Int) (hn : xs.length = pn) (h3 : 3 ≤ pn) (h273 : pn ≤ 273) (hp : HMsg w B (.slice ao pn pc) xs) :
    Calls Try.prog 9 #[.agg (sideC (.slice lo n cap) s.sent.length s.first s.most s.oct t), .slice ao pn pc] w fun e w' => ∃ lo' n' cap', e = .returned (.tuple #[.agg (sideC (.slice lo' n' cap') s.sent.length s.first s.most s.oct t), .int .i64 (s.putE xs)]) ∧ PRow w' B lo' n' cap' ((s.put xs).sent ++ (s.put xs).next) ∧ (∀ ad, lo' = some ad → (∃ ad', lo = some ad' ∧ ad'.block = ad.block) ∨ w.heap.size ≤ ad.block) ∧ Below w.heap.size w w' := by
  have hnn := hr.len.1
  rw [List.length_append] at hnn
  have hr' := hr
  obtain ⟨us, h1, h2⟩ := hr
  by_cases hf : (n : Int) ≥ s.most ∨ ((sz (s.sent ++ s.next) : Nat) : Int) + pn > s.oct
  · refine (rput_full lo ao n cap pn pc B us _ s.sent.length s.first s.most s.oct t w h3 h273 h1 h2 hB (by omega) hf).mono fun e w' ⟨g1, g2⟩ => ?_
    have e1 : s.putE xs = 3 := by
      unfold Hs.putE
      rw [if_neg (by omega), if_neg (by omega), if_pos]
      rw [sz_append] at hf
      omega
    have e2 : s.put xs = s := by
      unfold Hs.put
      rw [if_neg]
      rw [e1]
      decide
    exact ⟨lo, n, cap, by rw [g1, e1], by rw [e2]; exact hr'.below g2, fun ad e => .inl ⟨ad, e, rfl⟩, g2⟩
  · refine (rput_ok lo ao n cap pn pc B us _ xs s.sent.length s.first s.most s.oct t w h3 h273 h1 h2 hB (by omega) hp (by omega) (by omega)).mono fun e w' ⟨lo', n', cap', us', g1, g2, g3, g4, g5⟩ => ?_
    have e1 : s.putE xs = 0 := by
      unfold Hs.putE
      rw [if_neg (by omega), if_neg (by omega), if_neg]
      rw [sz_append] at hf
      omega
    have e2 : s.put xs = { s with next := s.next ++ [xs] } := by
      unfold Hs.put
      rw [if_pos e1]
    refine ⟨lo', n', cap', by rw [g1, e1], ⟨us', g2, ?_⟩, fun ad e => .inr (g5 ad e), g4⟩
    rw [e2]
    simp only
    rw [← List.append_assoc]
    exact g3
end Go.Proofs.Ytmnhciildlmjcaa.Tape
