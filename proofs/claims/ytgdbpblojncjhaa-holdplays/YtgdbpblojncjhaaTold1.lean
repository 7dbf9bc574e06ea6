/- A Hold and the reference's Side beside one another: told's first test. -/
import Derived.Test.YtgdbpblojncjhaaSide2
import Derived.Test.YtgdbpblojncjhaaHold10
namespace Go.Proofs.Ytgdbpblojncjhaa.Tape
open Go.ChangeShapes Go.WideShapes Go.ChangeAt Go.RowKit
set_option linter.unusedVariables false

/-- The reference's messages: its row, away from T. -/
def LRow (w : World) (C B : Nat) (T : Nat → Prop) (lo : Option Addr) (n cap : Nat) (ms : List (List Int)) : Prop := ∃ us, RowAt w (.slice lo n cap) us ∧ Each (RMsg w C) us ms ∧ ∀ ad, lo = some ad → B ≤ ad.block ∧ ¬ T ad.block

theorem LRow.below {w w' : World} {C B : Nat} {T : Nat → Prop} {lo : Option Addr} {n cap : Nat} {ms : List (List Int)} (h : LRow w C B T lo n cap ms) (hb : Below w.heap.size w w') (hC : C ≤ w.heap.size) : LRow w' C B T lo n cap ms := by
  obtain ⟨us, h1, h2, h3⟩ := h
  exact ⟨us, h1.at_ fun g hg => hb.block g (h1.lt g hg), h2.mono fun u x hm => hm.below (below_le hb hC), h3⟩
theorem LRow.len {w : World} {C B : Nat} {T : Nat → Prop} {lo : Option Addr} {n cap : Nat} {ms : List (List Int)} (h : LRow w C B T lo n cap ms) : n = ms.length ∧ n ≤ cap := by
  obtain ⟨us, h1, h2, -⟩ := h
  exact ⟨h1.cell.1.trans h2.len, h1.cell.2.1⟩
theorem LRow.foot {w w' : World} {C B : Nat} {T T' : Nat → Prop} {lo : Option Addr} {n cap : Nat} {ms : List (List Int)} (h : LRow w C B T lo n cap ms) (hf : Foot T T' w w') (hb : Below C w w') : LRow w' C B T' lo n cap ms := by
  obtain ⟨us, h1, h2, h3⟩ := h
  have hk : ∀ g, (Value.slice lo n cap).ownBlock = some g → ∃ ad, lo = some ad ∧ ad.block = g := fun g hg => by
    cases lo with
    | none => simp [Value.ownBlock] at hg
    | some ad => exact ⟨ad, rfl, by simpa [Value.ownBlock] using hg⟩
  refine ⟨us, h1.at_ fun g hg => ?_, h2.mono fun u x hm => hm.below hb, fun ad e => ⟨(h3 ad e).1, fun ht => ?_⟩⟩
  · obtain ⟨ad, e, rfl⟩ := hk g hg
    exact hf.block _ (h1.lt _ hg) (h3 ad e).2
  · rcases hf.moved _ ht with e' | e'
    · exact (h3 ad e).2 e'
    · have := h1.lt ad.block (by rw [e]; rfl)
      omega
theorem LRow.take {w : World} {C B : Nat} {T : Nat → Prop} {lo : Option Addr} {n cap : Nat} {ms : List (List Int)} (h : LRow w C B T lo n cap ms) (k : Nat) (hk : k ≤ n) : LRow w C B T lo k cap (ms.take k) := by
  obtain ⟨us, h1, h2, h3⟩ := h
  have hp := h1.part 0 k cap (by omega) hk (by have := h1.cell.2.1; omega) (Nat.le_refl _)
  have e : (if cap = 0 then lo else lo.map (·.add 0)) = lo := by
    split
    · rfl
    · cases lo with
      | none => rfl
      | some ad => simp [Addr.add]
  rw [e, Nat.sub_zero, Nat.sub_zero, List.drop_zero] at hp
  exact ⟨us.take k, hp, h2.take k, h3⟩

theorem LRow.get {w : World} {C B : Nat} {T : Nat → Prop} {lo : Option Addr} {n cap : Nat} {ms : List (List Int)} (h : LRow w C B T lo n cap ms) (k : Nat) (hk : k < ms.length) : ∃ g off ao mc, lo = some ⟨g, off, none⟩ ∧ w.cell? ⟨g, off + k, none⟩ = some (.slice ao ms[k].length mc) ∧ Reads w ao (ms[k].map (.int .u8)) := by
  obtain ⟨us, h1, h2, -⟩ := h
  obtain ⟨hnu, -, -, hrd⟩ := h1.cell
  have hku : k < us.length := by rw [h2.len]; exact hk
  obtain ⟨ao, mc, hu, hr, -⟩ := h2.get k hku hk
  obtain ⟨g, off, rfl, hc⟩ := hrd k _ (List.getElem?_eq_getElem hku)
  rw [hu] at hc
  exact ⟨g, off, ao, mc, rfl, hc, hr⟩

theorem HoldAt.sent_each {w : World} {b B : Nat} {T : Nat → Prop} {s : Hs} (h : HoldAt w b B T s) : ∃ us sv, RowAt w sv us ∧ Each (HMsg w B) us s.sent := by
  obtain ⟨sv, nv, -, hi⟩ := h
  obtain ⟨us, h1, h2⟩ := hi.sent
  exact ⟨us, sv, h1, h2⟩

theorem lsize_any {w : World} {C B : Nat} {T : Nat → Prop} {lo : Option Addr} {n cap : Nat} {ms : List (List Int)} (h : LRow w C B T lo n cap ms) (hn : n ≤ 1000000) : Calls Try.prog 22 #[.slice lo n cap] w fun e w' => e = .returned (.int .i64 (sz ms)) ∧ w' = w := by
  obtain ⟨us, h1, h2, -⟩ := h
  exact rsize_any lo n cap C us ms w h1 h2 hn

attribute [local go_sem ↓] ldS_def stS_def

/-- What told is asked: a Hold, and a Side with the same messages. -/
structure Beside (w : World) (C b B : Nat) (T : Nat → Prop) (s : Hs) (lo : Option Addr) (n cap : Nat) : Prop where
  hold : HoldAt w b B T s
  row : LRow w C B T lo n cap (s.sent ++ s.next)
  le : C ≤ w.heap.size
  small : s.next.length ≤ 100000

theorem Beside.below {w w' : World} {C b B : Nat} {T : Nat → Prop} {s : Hs} {lo : Option Addr} {n cap : Nat} (h : Beside w C b B T s lo n cap) (hb : Below w.heap.size w w') : Beside w' C b B T s lo n cap :=
  ⟨h.hold.below hb, h.row.below hb h.le, Nat.le_trans h.le hb.size, h.small⟩

theorem below_of_eq {B : Nat} {w0 w w' : World} (h : Below B w0 w) (e : w' = w) : Below B w0 w' := by rw [e]; exact h

/-- What the calls of told's first test answer, in any world behind W. -/
structure Asked (W : World) (b P Q O X Z F : Nat) (La : Int) (lo : Option Addr) (n cap : Nat) (cs : Array Value) : Prop where
  sent : ∀ Y, Below W.heap.size W Y → Calls Try.prog 21 #[.pointer (some ⟨b, 0, none⟩)] Y fun e w' => e = .returned (.int .i64 P) ∧ Below W.heap.size W w'
  next : ∀ Y, Below W.heap.size W Y → Calls Try.prog 23 #[.pointer (some ⟨b, 0, none⟩)] Y fun e w' => e = .returned (.int .i64 Q) ∧ Below W.heap.size W w'
  octets : ∀ Y, Below W.heap.size W Y → Calls Try.prog 24 #[.pointer (some ⟨b, 0, none⟩)] Y fun e w' => e = .returned (.int .i64 O) ∧ Below W.heap.size W w'
  waiting : ∀ Y, Below W.heap.size W Y → Calls Try.prog 34 #[.pointer (some ⟨b, 0, none⟩)] Y fun e w' => e = .returned (.int .i64 X) ∧ Below W.heap.size W w'
  size : ∀ Y, Below W.heap.size W Y → Calls Try.prog 35 #[.pointer (some ⟨b, 0, none⟩)] Y fun e w' => e = .returned (.int .i64 Z) ∧ Below W.heap.size W w'
  first : ∀ Y, Below W.heap.size W Y → Calls Try.prog 36 #[.pointer (some ⟨b, 0, none⟩)] Y fun e w' => e = .returned (.int .u8 F) ∧ Below W.heap.size W w'
  last : ∀ Y, Below W.heap.size W Y → Calls Try.prog 37 #[.pointer (some ⟨b, 0, none⟩)] Y fun e w' => e = .returned (.int .u8 La) ∧ Below W.heap.size W w'
  rall : ∀ Y, Below W.heap.size W Y → Calls Try.prog 22 #[.slice lo n cap] Y fun e w' => e = .returned (.int .i64 O) ∧ Below W.heap.size W w'
  rsent : ∀ Y, Below W.heap.size W Y → Calls Try.prog 22 #[.slice lo P cap] Y fun e w' => e = .returned (.int .i64 X) ∧ Below W.heap.size W w'
  rnum : ∀ Y, Below W.heap.size W Y → ∀ i : Int, i = P - 1 → Calls Try.prog 13 #[.agg cs, .int .i64 i] Y fun e w' => e = .returned (.int .i64 La) ∧ Below W.heap.size W w'

theorem asked (W : World) (C b B : Nat) (T : Nat → Prop) (s : Hs) (lo : Option Addr) (n cap : Nat) (m o : Int) (t : Tail) (h : Beside W C b B T s lo n cap) :
    Asked W b s.sent.length s.next.length (sz (s.sent ++ s.next)) (sz s.sent) s.size s.first s.last lo n cap (sideC (.slice lo n cap) s.sent.length s.first m o t) := by
  have hn := h.row.len.1
  have hwin := h.hold.fine.win
  have hf := h.hold.fine.first
  have hsm := h.small
  have hk : s.sent.length ≤ n := by rw [hn, List.length_append]; omega
  have hn2 : n ≤ 1000000 := by rw [hn, List.length_append]; omega
  refine ⟨fun Y hY => ?_, fun Y hY => ?_, fun Y hY => ?_, fun Y hY => ?_, fun Y hY => ?_, fun Y hY => ?_, fun Y hY => ?_, fun Y hY => ?_, fun Y hY => ?_, fun Y hY i hi => ?_⟩
  · exact (sent_any b B T s Y (h.below hY).hold).mono fun e w' ⟨h1, h2⟩ => ⟨h1, below_of_eq hY h2⟩
  · exact (next_any b B T s Y (h.below hY).hold).mono fun e w' ⟨h1, h2⟩ => ⟨h1, below_of_eq hY h2⟩
  · refine (octets_any b B T s Y (h.below hY).hold).mono fun e w' ⟨h1, q, h2⟩ => ⟨by rw [h1, sz_append], ?_⟩
    rw [h2]
    exact below_drewN hY q
  · exact (waiting_any b B T s Y (h.below hY).hold).mono fun e w' ⟨h1, h2⟩ => ⟨h1, below_of_eq hY h2⟩
  · exact (size_any b B T s Y (h.below hY).hold).mono fun e w' ⟨h1, h2⟩ => ⟨h1, below_of_eq hY h2⟩
  · exact (first_any b B T s Y (h.below hY).hold).mono fun e w' ⟨h1, h2⟩ => ⟨h1, below_of_eq hY h2⟩
  · exact (last_any b B T s Y (h.below hY).hold).mono fun e w' ⟨h1, h2⟩ => ⟨h1, below_of_eq hY h2⟩
  · exact (lsize_any (h.below hY).row hn2).mono fun e w' ⟨h1, h2⟩ => ⟨h1, below_of_eq hY h2⟩
  · refine (lsize_any ((h.below hY).row.take s.sent.length hk) (by omega)).mono fun e w' ⟨h1, h2⟩ => ⟨?_, below_of_eq hY h2⟩
    rw [h1, List.take_left]
  · refine (rnumber_any (.slice lo n cap) s.sent.length s.first m o t i Y (by omega) (by omega) (by omega) (by omega)).mono fun e w' ⟨h1, h2⟩ => ⟨?_, hY.trans (below_le h2 hY.size)⟩
    rw [h1, hi]
    exact ret_int (by unfold Hs.last; congr 1; omega)
end Go.Proofs.Ytgdbpblojncjhaa.Tape
