/- A way's Reset and Taken through the interface. -/
import Derived.Test.YtldjglmelbkngaaGreatWay5
namespace Go.Proofs.YtldjglmelbkngaaGreat.Tape
open Go.ChangeShapes Go.WideShapes Go.ChangeAt Go.RowKit
set_option linter.unusedVariables false

def fReset (c : Bool) : Nat := if c then 98 else 99
def fTaken (c : Bool) : Nat := if c then 136 else 163
theorem m_reset (c : Bool) (p : Nat) (W : World) : (method 267 (wT c) (.pointer (some ⟨p, 0, none⟩)) "Reset").run Tryz.prog W = .ok (fReset c, .pointer (some ⟨p, 0, none⟩)) W := by
  cases c <;> (show _ = _; kernel_rfl)
theorem m_taken (c : Bool) (p : Nat) (W : World) : (method 267 (wT c) (.pointer (some ⟨p, 0, none⟩)) "Taken").run Tryz.prog W = .ok (fTaken c, .pointer (some ⟨p, 0, none⟩)) W := by
  cases c <;> (show _ = _; kernel_rfl)
theorem c_reset (c : Bool) (a : Array Value) (W : World) : (callFunc (fReset c) a).run Tryz.prog W = .ok (.enter (fReset c) a) W := by
  cases c <;> (show _ = _; kernel_rfl)
theorem c_taken (c : Bool) (a : Array Value) (W : World) : (callFunc (fTaken c) a).run Tryz.prog W = .ok (.enter (fTaken c) a) W := by
  cases c <;> (show _ = _; kernel_rfl)

/-- A way that begins anew. -/
def Wt.rs : Wt → Wt
  | .inl _ => .inl bs0
  | .inr t => .inr (cs0 t.n1 t.n2)

theorem wreset_any (p hb B : Nat) (T0 : Nat → Prop) (x : Wt) (s : Hs) (w : World) (h : WayIn w p hb B T0 x s) : Calls Tryz.prog (fReset x.cyclic) #[.pointer (some ⟨p, 0, none⟩)] w fun e w' => e = .returned (.tuple #[]) ∧ ∃ T1, WayIn w' p hb B T1 x.rs ⟨s.most, s.oct, 0, [], []⟩ ∧ Foot (fun g => g = p ∨ T0 g) (fun g => g = p ∨ T1 g) w w' := by
  cases x with
  | inl t => exact reset_any p hb B T0 t s w h
  | inr t => exact creset_any p hb B T0 t s w h
theorem wtaken_any (p hb B : Nat) (T0 : Nat → Prop) (x : Wt) (s : Hs) (w : World) (h : WayIn w p hb B T0 x s) : Calls Tryz.prog (fTaken x.cyclic) #[.pointer (some ⟨p, 0, none⟩)] w fun e w' => e = .returned (.int .u8 x.last) ∧ w' = w := by
  cases x with
  | inl t => exact taken_any p hb B T0 t s w h
  | inr t => exact ctaken_any p hb B T0 t s w h
end Go.Proofs.YtldjglmelbkngaaGreat.Tape
