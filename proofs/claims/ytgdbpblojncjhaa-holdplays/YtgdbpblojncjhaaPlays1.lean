/- What the reference's Put, Send, Free, Flush make of a Side beside a Hold. -/
import Derived.Test.YtgdbpblojncjhaaTold1
namespace Go.Proofs.Ytgdbpblojncjhaa.Tape
open Go.ChangeShapes Go.WideShapes Go.ChangeAt Go.RowKit
set_option linter.unusedVariables false

/-- A Hold just made, whatever is asked of its rows. -/
theorem new_all (m o : Int) (w : World) (hm : m ≤ 1048576) (ho : o ≤ 1099511627776) : Calls Try.prog 7 #[.int .i64 m, .int .i64 o] w fun e w' => e = .returned (.pointer (some ⟨w.heap.size, 0, none⟩)) ∧ (∃ T, (∀ B, HoldAt w' w.heap.size B T ⟨m, o, 0, [], []⟩) ∧ ∀ g, T g → g = w.heap.size) ∧ Below w.heap.size w w' := by
  have hh := fun B => new_in w m o B hm ho
  have hB := (Below.refl w.heap.size w).alloc (Nat.le_refl _) (.cells #[.int .i64 m, .int .i64 o, .int .u8 0, .slice none 0 0, .int .i64 0, .slice none 0 0, .int .i64 0] 56)
  go_enter Try.func7, Try.ntmps7
  go_wp2
  go_ret
  refine ⟨rfl, ⟨_, hh, fun g hg => ?_⟩, hB⟩
  rcases hg with e | e | e
  · exact e
  · simp [Value.ownBlock] at e
  · simp [Value.ownBlock] at e

theorem Beside.store {w w' : World} {C b B S : Nat} {T : Nat → Prop} {s : Hs} {lo : Option Addr} {n cap : Nat} (h : Beside w C b B T s lo n cap) (hg : w.grownBy w' (some S)) (hS : S < B) (hb : S ≠ b) (hC : C ≤ S) : Beside w' C b B T s lo n cap := by
  obtain ⟨h1, ⟨us, h2, h3, h4⟩, h5, h6⟩ := h
  refine ⟨h1.keep fun k hk hlt => hg.block k hlt (fun e => ?_), ⟨us, h2.at_ fun g hgg => hg.block g (h2.lt g hgg) (fun e => ?_), h3.mono fun u x hm => hm.below ⟨hg.os, hg.tape, hg.output, hg.size, fun k hk => hg.block k (by omega) (fun e => by simp at e; omega)⟩, h4⟩, Nat.le_trans h5 hg.size, h6⟩
  · simp at e
    rcases hk with e' | e' <;> omega
  · simp at e
    cases lo with
    | none => simp [Value.ownBlock] at hgg
    | some ad =>
      have := (h4 ad rfl).1
      simp [Value.ownBlock] at hgg
      omega

theorem Each.split {M : Value → List Int → Prop} {us : List Value} {ms : List (List Int)} (h : Each M us ms) (k : Nat) : Each M (us.drop k) (ms.drop k) := h.drop k

theorem rput_law {w : World} {C b B : Nat} {T : Nat → Prop} {s : Hs} {lo : Option Addr} {n cap : Nat} (t : Tail) (h : Beside w C b B T s lo n cap) (hB : B ≤ w.heap.size) (ao : Option Addr) (pn pc : Nat) (xs : List Int) (hn : xs.length = pn) (hpn : pn ≤ 1000) (hr : Reads w ao (xs.map (.int .u8))) (hb : ∀ ad, 3 ≤ pn → ao = some ad → ad.block < C) (hx : ∀ y ∈ xs, 0 ≤ y ∧ y ≤ 255) :
    Calls Try.prog 9 #[.agg (sideC (.slice lo n cap) s.sent.length s.first s.most s.oct t), .slice ao pn pc] w fun e w' => ∃ lo' n' cap', e = .returned (.tuple #[.agg (sideC (.slice lo' n' cap') s.sent.length s.first s.most s.oct t), .int .i64 (s.putE xs)]) ∧ LRow w' C B T lo' n' cap' ((s.put xs).sent ++ (s.put xs).next) ∧ (s.put xs).sent = s.sent ∧ Below w.heap.size w w' := by
  have hnn := h.row.len.1
  have hwin := h.hold.fine.win
  have hsm := h.small
  rw [List.length_append] at hnn
  obtain ⟨us, h1, h2, h3⟩ := h.row
  have hsent : (s.put xs).sent = s.sent := by unfold Hs.put; split <;> rfl
  have keep : ∀ w', Below w.heap.size w w' → LRow w' C B T lo n cap (s.sent ++ s.next) := fun w' hw => h.row.below hw h.le
  by_cases hp : pn < 3 ∨ 273 < pn
  · refine (rput_bad lo ao n cap pn pc s.sent.length s.first s.most s.oct t w hp (by omega)).mono fun e w' ⟨h1, h2⟩ => ?_
    have e1 : s.putE xs = if pn < 3 then 5 else 6 := by
      unfold Hs.putE
      rw [hn]
      split
      · rfl
      · rw [if_pos (by omega)]
    have e2 : s.put xs = s := by
      unfold Hs.put
      rw [if_neg]
      rw [e1]
      split <;> decide
    exact ⟨lo, n, cap, by rw [h1, e1], by rw [e2]; exact keep w' h2, hsent, h2⟩
  · by_cases hf : (n : Int) ≥ s.most ∨ ((sz (s.sent ++ s.next) : Nat) : Int) + pn > s.oct
    · refine (rput_full lo ao n cap pn pc C us _ s.sent.length s.first s.most s.oct t w (by omega) (by omega) h1 h2 h.le (by omega) hf).mono fun e w' ⟨h1, h2⟩ => ?_
      have e1 : s.putE xs = 3 := by
        unfold Hs.putE
        rw [if_neg (by omega), if_neg (by omega), if_pos]
        rw [sz_append] at hf
        omega
      have e2 : s.put xs = s := by
        unfold Hs.put
        rw [if_neg]
        rw [e1]
        decide
      exact ⟨lo, n, cap, by rw [h1, e1], by rw [e2]; exact keep w' h2, hsent, h2⟩
    · refine (rput_ok lo ao n cap pn pc C us _ xs s.sent.length s.first s.most s.oct t w (by omega) (by omega) h1 h2 h.le (by omega) (RMsg.slice hn hr (fun ad => hb ad (by omega)) (by omega) (by omega) hx) (by omega) (by omega)).mono fun e w' ⟨lo', n', cap', us', g1, g2, g3, g4, g5⟩ => ?_
      have e1 : s.putE xs = 0 := by
        unfold Hs.putE
        rw [if_neg (by omega), if_neg (by omega), if_neg]
        rw [sz_append] at hf
        omega
      have e2 : s.put xs = { s with next := s.next ++ [xs] } := by
        unfold Hs.put
        rw [if_pos e1]
      refine ⟨lo', n', cap', by rw [g1, e1], ⟨us', g2, ?_, fun ad e => ⟨Nat.le_trans hB (g5 ad e), fun ht => ?_⟩⟩, hsent, g4⟩
      · rw [e2]
        simp only
        rw [← List.append_assoc]
        exact g3
      · have := (h.hold.mine _ ht).2
        have := g5 ad e
        omega

/-- Send's error, and what it leaves. -/
def Hs.sendE (s : Hs) : Int := if s.next = [] then 2 else if 127 ≤ s.sent.length then 3 else 0
def Hs.send (s : Hs) : Hs := match s.next with
  | [] => s
  | x :: xs => if 127 ≤ s.sent.length then s else { s with sent := s.sent ++ [x], next := xs }

theorem send_all (s : Hs) : (s.send).sent ++ (s.send).next = s.sent ++ s.next ∧ s.send.first = s.first ∧ s.send.most = s.most ∧ s.send.oct = s.oct ∧ s.send.sent.length = (if s.sendE = 0 then s.sent.length + 1 else s.sent.length) := by
  obtain ⟨m, o, f, a, b⟩ := s
  cases b with
  | nil => simp [Hs.send, Hs.sendE]
  | cons x xs =>
    by_cases h : 127 ≤ a.length
    · simp [Hs.send, Hs.sendE, h]
    · simp [Hs.send, Hs.sendE, h]

theorem rsend_law {w : World} {C b B : Nat} {T : Nat → Prop} {s : Hs} {lo : Option Addr} {n cap : Nat} (m o : Int) (t : Tail) (h : Beside w C b B T s lo n cap) :
    Calls Try.prog 11 #[.agg (sideC (.slice lo n cap) s.sent.length s.first m o t)] w fun e w' => e = .returned (.tuple #[.agg (sideC (.slice lo n cap) s.send.sent.length s.first m o t), .int .i64 s.sendE]) ∧ Below w.heap.size w w' := by
  have hnn := h.row.len.1
  have hwin := h.hold.fine.win
  have hsm := h.small
  rw [List.length_append] at hnn
  refine (rsend_any lo n cap s.sent.length s.first m o t w (by omega) (by omega) (by omega)).mono fun e w' ⟨h1, h2⟩ => ⟨?_, h2⟩
  obtain ⟨-, -, -, -, hl⟩ := send_all s
  rw [h1]
  unfold Hs.sendE at hl ⊢
  by_cases hnx : s.next = []
  · have : (s.sent.length : Int) ≥ n := by rw [hnx] at hnn; simp at hnn; omega
    rw [if_pos this, if_pos this, if_pos hnx, hl, if_pos hnx, if_neg (by decide)]
  · have hpos := List.length_pos_iff.2 hnx
    have : ¬ (s.sent.length : Int) ≥ n := by omega
    rw [if_neg this, if_neg this, if_neg hnx, hl, if_neg hnx]
    by_cases h127 : 127 ≤ s.sent.length
    · have : (s.sent.length : Int) ≥ 127 := by omega
      rw [if_pos this, if_pos this, if_pos h127, if_neg (by decide)]
    · have : ¬ (s.sent.length : Int) ≥ 127 := by omega
      rw [if_neg this, if_neg this, if_neg h127, if_pos rfl]
      rfl

theorem rflush_law {w : World} {C b B : Nat} {T : Nat → Prop} {s : Hs} {lo : Option Addr} {n cap : Nat} (m o : Int) (t : Tail) (h : Beside w C b B T s lo n cap) :
    Calls Try.prog 18 #[.agg (sideC (.slice lo n cap) s.sent.length s.first m o t)] w fun e w' => e = .returned (.agg (sideC (.slice lo s.sent.length cap) s.sent.length s.first m o t)) ∧ LRow w' C B T lo s.sent.length cap s.sent ∧ Below w.heap.size w w' := by
  have hnn := h.row.len
  rw [List.length_append] at hnn
  refine (rflush_any lo n cap s.sent.length s.first m o t w (by omega) hnn.2).mono fun e w' ⟨h1, h2⟩ => ⟨h1, ?_, h2⟩
  have := (h.row.take s.sent.length (by omega)).below h2 h.le
  rw [List.take_left] at this
  exact this

theorem rflush_row {w : World} {C B : Nat} {T : Nat → Prop} {p r : List (List Int)} {lo : Option Addr} {n cap : Nat} (f m o : Int) (t : Tail) (h : LRow w C B T lo n cap (p ++ r)) (hC : C ≤ w.heap.size) :
    Calls Try.prog 18 #[.agg (sideC (.slice lo n cap) p.length f m o t)] w fun e w' => e = .returned (.agg (sideC (.slice lo p.length cap) p.length f m o t)) ∧ LRow w' C B T lo p.length cap p ∧ Below w.heap.size w w' := by
  have hnn := h.len
  rw [List.length_append] at hnn
  refine (rflush_any lo n cap p.length f m o t w (by omega) hnn.2).mono fun e w' ⟨h1, h2⟩ => ⟨h1, ?_, h2⟩
  have := (h.take p.length (by omega)).below h2 hC
  rw [List.take_left] at this
  exact this

theorem rfree_law {w : World} {C b B : Nat} {T : Nat → Prop} {s : Hs} {lo : Option Addr} {n cap : Nat} (m o x : Int) (t : Tail) (h : Beside w C b B T s lo n cap) (h0 : 0 ≤ x) (h1 : x ≤ 255) (k : Nat) (hb : bhd s.sent.length s.first x = k) (hk : k ≤ s.sent.length) :
    Calls Try.prog 15 #[.agg (sideC (.slice lo n cap) s.sent.length s.first m o t), .int .i64 x] w fun e w' => ∃ lo' n' cap', e = .returned (.tuple #[.agg (sideC (.slice lo' n' cap') ((s.sent.length : Int) - k) (((s.first : Int) + k) % 128) m o t), .int .i64 k]) ∧ LRow w' C B T lo' n' cap' (s.sent.drop k ++ s.next) ∧ Below w.heap.size w w' := by
  have hnn := h.row.len
  have hwin := h.hold.fine.win
  have hf := h.hold.fine.first
  rw [List.length_append] at hnn
  obtain ⟨us, g1, g2, g3⟩ := h.row
  have hp := g1.part k n cap (by omega) (Nat.le_refl _) hnn.2 (Nat.le_refl _)
  rw [List.take_of_length_le (by rw [← g1.cell.1]; exact Nat.le_refl _)] at hp
  have hd : (s.sent ++ s.next).drop k = s.sent.drop k ++ s.next := List.drop_append_of_le_length hk
  have fin : ∀ w' lo', Below w.heap.size w w' → (∀ ad, lo' = some ad → ∃ ad', lo = some ad' ∧ ad'.block = ad.block) → lo' = (if cap = k then lo else lo.map (·.add k)) → LRow w' C B T lo' (n - k) (cap - k) (s.sent.drop k ++ s.next) := fun w' lo' hw hl e => by
    rw [e] at hl ⊢
    refine ⟨us.drop k, hp.at_ fun g hg => hw.block g (hp.lt g hg), ?_, fun ad ea => ?_⟩
    · rw [← hd]
      exact (g2.drop k).mono fun u y hm => hm.below (below_le hw h.le)
    · obtain ⟨ad', e1, e2⟩ := hl ad ea
      have := g3 ad' e1
      rw [e2] at this
      exact this
  rcases g1 with ⟨e, -⟩ | ⟨g, off, cap0, cur, e, -⟩
  · simp only [Value.slice.injEq] at e
    obtain ⟨rfl, rfl, rfl⟩ := e
    obtain rfl : k = 0 := by omega
    refine (rfree_nil s.sent.length s.first m o x t w (by omega) (by omega) (by omega) (by omega) hb (by omega)).mono fun e w' ⟨q1, q2⟩ => ⟨none, 0, 0, ?_, ?_, q2⟩
    · rw [q1]
      simp
    · exact fin w' none q2 (fun ad e => by cases e) (by simp)
  · simp only [Value.slice.injEq] at e
    obtain ⟨rfl, -, -⟩ := e
    by_cases hc : cap = k
    · subst hc
      obtain rfl : n = cap := by omega
      refine (rfree_end g off n s.sent.length s.first m o x t w (by omega) (by omega) (by omega) (by omega) hb (by omega) (by omega)).mono fun e w' ⟨q1, q2⟩ => ⟨some ⟨g, off, none⟩, 0, 0, q1, ?_, q2⟩
      have := fin w' (some ⟨g, off, none⟩) q2 (fun ad e => ⟨ad, e, rfl⟩) (by rw [if_pos rfl])
      simpa using this
    · refine (rfree_in g off n cap k s.sent.length s.first m o x t w (by omega) (by omega) (by omega) (by omega) hb (by omega) (by omega) (by omega) hnn.2 hc).mono fun e w' ⟨q1, q2⟩ => ⟨some ⟨g, off + k, none⟩, n - k, cap - k, q1, ?_, q2⟩
      exact fin w' (some ⟨g, off + k, none⟩) q2 (fun ad e => ⟨_, rfl, by cases e; rfl⟩) (by rw [if_neg hc]; simp [Addr.add_lit])
end Go.Proofs.Ytgdbpblojncjhaa.Tape
