/- What a message more, or one fewer, makes of a Hold in memory: plain facts; no walk here. -/
import Derived.Test.YtldjglmelbkngaaGreatHold3
namespace Go.Proofs.YtldjglmelbkngaaGreat.Tape
open Go.ChangeShapes Go.WideShapes Go.ChangeAt Go.RowKit
set_option linter.unusedVariables false

theorem HoldIn.away {w : World} {b B : Nat} {sv nv : Value} {s : Hs} (h : HoldIn w b B sv nv s) : sv.ownBlock ≠ some b ∧ nv.ownBlock ≠ some b := by
  obtain ⟨h1, ⟨us, h2, -⟩, ⟨un, h4, -⟩, -⟩ := h
  constructor
  · intro e
    obtain ⟨cur, hh⟩ := h2.type b e
    rw [h1] at hh
    simp at hh
  · intro e
    obtain ⟨cur, hh⟩ := h4.type b e
    rw [h1] at hh
    simp at hh

/-- Messages stay where only the Hold's own blocks turn. -/
theorem HoldIn.msgs {w w' : World} {b B : Nat} {sv nv : Value} {s : Hs} (h : HoldIn w b B sv nv s) (hk : ∀ k, k < w.heap.size → ¬ own b sv nv k → w'.heap[k]? = w.heap[k]?) : ∀ u x, HMsg w B u x → HMsg w' B u x := fun u x hm => hm.at_ fun g cur _ hg => hk g (heap_lt hg) (by
  obtain ⟨h1, ⟨us, h2, -⟩, ⟨un, h4, -⟩, -⟩ := h
  rintro (rfl | e | e)
  · rw [h1] at hg
    simp at hg
  · obtain ⟨c, hh⟩ := h2.type g e
    rw [hh] at hg
    simp at hg
  · obtain ⟨c, hh⟩ := h4.type g e
    rw [hh] at hg
    simp at hg)

theorem add_next {w w1 : World} {b B : Nat} {sv nv v' u : Value} {s : Hs} {un : List Value} {xs : List Int} (h : HoldIn w b B sv nv s) (hr : RowAt w nv un) (he : Each (HMsg w B) un s.next) (hm : HMsg w B u xs) (hr1 : RowAt w1 v' (un ++ [u])) (hg : w.grownBy w1 nv.ownBlock)
    (hmv : ∀ g, v'.ownBlock = some g → nv.ownBlock = some g ∨ w.heap.size ≤ g) (hB : B ≤ w.heap.size) (hf : Hs.Fine { s with next := s.next ++ [xs] }) :
    HoldIn ((w1.setCell ⟨b, 5, none⟩ v').setCell ⟨b, 6, none⟩ (.int .i64 ((sz s.next : Nat) + xs.length))) b B sv v' { s with next := s.next ++ [xs] } ∧ Foot (own b sv nv) (own b sv v') w ((w1.setCell ⟨b, 5, none⟩ v').setCell ⟨b, 6, none⟩ (.int .i64 ((sz s.next : Nat) + xs.length))) := by
  obtain ⟨aws, awn⟩ := h.away
  have hmsg := fun {w'} hk => h.msgs (w' := w') hk
  obtain ⟨h1, ⟨us, h2, h3⟩, ⟨uo, h4, h5⟩, h6, h7, h8, h9⟩ := h
  have hlt := heap_lt h1
  have hb1 : w1.heap[b]? = w.heap[b]? := hg.block b hlt (fun e => awn e.symm)
  have vb : v'.ownBlock ≠ some b := fun e => by
    rcases hmv b e with e | e
    · exact awn e
    · omega
  have hset : ∀ k, k ≠ b → ((w1.setCell ⟨b, 5, none⟩ v').setCell ⟨b, 6, none⟩ (.int .i64 ((sz s.next : Nat) + xs.length))).heap[k]? = w1.heap[k]? := fun k hk => by rw [Below.heap_setCell _ _ _ _ hk, Below.heap_setCell _ _ _ _ hk]
  have hblk : ∀ k, k < w.heap.size → ¬ own b sv nv k → ((w1.setCell ⟨b, 5, none⟩ v').setCell ⟨b, 6, none⟩ (.int .i64 ((sz s.next : Nat) + xs.length))).heap[k]? = w.heap[k]? := fun k hk hn => by
    rw [hset k (fun e => hn (.inl e)), hg.block k hk (fun e => hn (.inr (.inr e.symm)))]
  have hM := hmsg hblk
  have hc := row_set (row_set (cs := [.int .i64 s.most, .int .i64 s.oct, .int .u8 s.first, sv, .int .i64 (sz s.sent), nv, .int .i64 (sz s.next)]) (hb1.trans h1) 5 v') 6 (.int .i64 ((sz s.next : Nat) + xs.length))
  have hmine : RowAt ((w1.setCell ⟨b, 5, none⟩ v').setCell ⟨b, 6, none⟩ (.int .i64 ((sz s.next : Nat) + xs.length))) v' (un ++ [u]) := hr1.at_ fun g hgg => hset g (fun e => vb (by rw [hgg, e]))
  have hev : Each (HMsg ((w1.setCell ⟨b, 5, none⟩ v').setCell ⟨b, 6, none⟩ (.int .i64 ((sz s.next : Nat) + xs.length))) B) (un ++ [u]) (s.next ++ [xs]) := Each.append (ys := [u]) (zs := [xs]) ⟨hM u xs hm, trivial⟩ (he.mono hM)
  have hnew : ∀ g, v'.ownBlock = some g → B ≤ g := fun g hgg => by
    rcases hmv g hgg with e | e
    · exact h8 g e
    · omega
  have hoth : RowAt ((w1.setCell ⟨b, 5, none⟩ v').setCell ⟨b, 6, none⟩ (.int .i64 ((sz s.next : Nat) + xs.length))) sv us := h2.at_ fun g hgg => by
    rw [hset g (fun e => aws (by rw [hgg, e])), hg.block g (h2.lt g hgg) (fun e => h6 g hgg e.symm)]
  refine ⟨⟨?_, ⟨us, hoth, h3.mono hM⟩, ⟨un ++ [u], hmine, hev⟩, fun g e1 e2 => ?_, h7, hnew, hf⟩, ⟨hg.os, hg.tape, hg.output, ?_, hblk, fun g hgg => ?_⟩⟩
  · rw [hc, sz_append]
    simp [sz]
  · rcases hmv g e2 with e | e
    · exact h6 g e1 e
    · have := h2.lt g e1; omega
  · simpa [World.setCell] using hg.size
  · rcases hgg with e | e | e
    · exact .inl (.inl e)
    · exact .inl (.inr (.inl e))
    · exact (hmv g e).imp (fun e => .inr (.inr e)) id

theorem add_sent {w w1 : World} {b B : Nat} {sv nv v' u : Value} {s : Hs} {un : List Value} {xs : List Int} (h : HoldIn w b B sv nv s) (hr : RowAt w sv un) (he : Each (HMsg w B) un s.sent) (hm : HMsg w B u xs) (hr1 : RowAt w1 v' (un ++ [u])) (hg : w.grownBy w1 sv.ownBlock)
    (hmv : ∀ g, v'.ownBlock = some g → sv.ownBlock = some g ∨ w.heap.size ≤ g) (hB : B ≤ w.heap.size) (hf : Hs.Fine { s with sent := s.sent ++ [xs] }) :
    HoldIn ((w1.setCell ⟨b, 3, none⟩ v').setCell ⟨b, 4, none⟩ (.int .i64 ((sz s.sent : Nat) + xs.length))) b B v' nv { s with sent := s.sent ++ [xs] } ∧ Foot (own b sv nv) (own b v' nv) w ((w1.setCell ⟨b, 3, none⟩ v').setCell ⟨b, 4, none⟩ (.int .i64 ((sz s.sent : Nat) + xs.length))) := by
  obtain ⟨aws, awn⟩ := h.away
  have hmsg := fun {w'} hk => h.msgs (w' := w') hk
  obtain ⟨h1, ⟨us, h2, h3⟩, ⟨uo, h4, h5⟩, h6, h7, h8, h9⟩ := h
  have hlt := heap_lt h1
  have hb1 : w1.heap[b]? = w.heap[b]? := hg.block b hlt (fun e => aws e.symm)
  have vb : v'.ownBlock ≠ some b := fun e => by
    rcases hmv b e with e | e
    · exact aws e
    · omega
  have hset : ∀ k, k ≠ b → ((w1.setCell ⟨b, 3, none⟩ v').setCell ⟨b, 4, none⟩ (.int .i64 ((sz s.sent : Nat) + xs.length))).heap[k]? = w1.heap[k]? := fun k hk => by rw [Below.heap_setCell _ _ _ _ hk, Below.heap_setCell _ _ _ _ hk]
  have hblk : ∀ k, k < w.heap.size → ¬ own b sv nv k → ((w1.setCell ⟨b, 3, none⟩ v').setCell ⟨b, 4, none⟩ (.int .i64 ((sz s.sent : Nat) + xs.length))).heap[k]? = w.heap[k]? := fun k hk hn => by
    rw [hset k (fun e => hn (.inl e)), hg.block k hk (fun e => hn (.inr (.inl e.symm)))]
  have hM := hmsg hblk
  have hc := row_set (row_set (cs := [.int .i64 s.most, .int .i64 s.oct, .int .u8 s.first, sv, .int .i64 (sz s.sent), nv, .int .i64 (sz s.next)]) (hb1.trans h1) 3 v') 4 (.int .i64 ((sz s.sent : Nat) + xs.length))
  have hmine : RowAt ((w1.setCell ⟨b, 3, none⟩ v').setCell ⟨b, 4, none⟩ (.int .i64 ((sz s.sent : Nat) + xs.length))) v' (un ++ [u]) := hr1.at_ fun g hgg => hset g (fun e => vb (by rw [hgg, e]))
  have hev : Each (HMsg ((w1.setCell ⟨b, 3, none⟩ v').setCell ⟨b, 4, none⟩ (.int .i64 ((sz s.sent : Nat) + xs.length))) B) (un ++ [u]) (s.sent ++ [xs]) := Each.append (ys := [u]) (zs := [xs]) ⟨hM u xs hm, trivial⟩ (he.mono hM)
  have hnew : ∀ g, v'.ownBlock = some g → B ≤ g := fun g hgg => by
    rcases hmv g hgg with e | e
    · exact h7 g e
    · omega
  have hoth : RowAt ((w1.setCell ⟨b, 3, none⟩ v').setCell ⟨b, 4, none⟩ (.int .i64 ((sz s.sent : Nat) + xs.length))) nv uo := h4.at_ fun g hgg => by
    rw [hset g (fun e => awn (by rw [hgg, e])), hg.block g (h4.lt g hgg) (fun e => h6 g e.symm hgg)]
  refine ⟨⟨?_, ⟨un ++ [u], hmine, hev⟩, ⟨uo, hoth, h5.mono hM⟩, fun g e1 e2 => ?_, hnew, h8, hf⟩, ⟨hg.os, hg.tape, hg.output, ?_, hblk, fun g hgg => ?_⟩⟩
  · rw [hc, sz_append]
    simp [sz]
  · rcases hmv g e1 with e | e
    · exact h6 g e e2
    · have := h4.lt g e2; omega
  · simpa [World.setCell] using hg.size
  · rcases hgg with e | e | e
    · exact .inl (.inl e)
    · exact (hmv g e).imp (fun e => .inr (.inl e)) id
    · exact .inl (.inr (.inr e))

theorem take_next {w : World} {b B g off : Nat} {sv nv v' u : Value} {s : Hs} {un : List Value} {x : List Int} {ms : List (List Int)} (h : HoldIn w b B sv nv s) (hs : s.next = x :: ms) (he : Each (HMsg w B) (u :: un) s.next) (hr1 : RowAt (w.setCell ⟨g, off, none⟩ (.slice none 0 0)) v' un) (hg : nv.ownBlock = some g) (hg' : v'.ownBlock = some g) :
    HoldIn (((w.setCell ⟨g, off, none⟩ (.slice none 0 0)).setCell ⟨b, 5, none⟩ v').setCell ⟨b, 6, none⟩ (.int .i64 ((sz s.next : Nat) - (x.length : Nat)))) b B sv v' { s with next := ms } ∧ Foot (own b sv nv) (own b sv v') w (((w.setCell ⟨g, off, none⟩ (.slice none 0 0)).setCell ⟨b, 5, none⟩ v').setCell ⟨b, 6, none⟩ (.int .i64 ((sz s.next : Nat) - (x.length : Nat)))) := by
  obtain ⟨aws, awn⟩ := h.away
  have hmsg := fun {w'} hk => h.msgs (w' := w') hk
  obtain ⟨h1, ⟨us, h2, h3⟩, ⟨uo, h4, h5⟩, h6, h7, h8, h9⟩ := h
  have hlt := heap_lt h1
  have gb : g ≠ b := fun e => awn (by rw [hg, e])
  have hb1 : (w.setCell ⟨g, off, none⟩ (.slice none 0 0)).heap[b]? = w.heap[b]? := Below.heap_setCell _ _ _ _ gb.symm
  have hset : ∀ k, k ≠ b → (((w.setCell ⟨g, off, none⟩ (.slice none 0 0)).setCell ⟨b, 5, none⟩ v').setCell ⟨b, 6, none⟩ (.int .i64 ((sz s.next : Nat) - (x.length : Nat)))).heap[k]? = (w.setCell ⟨g, off, none⟩ (.slice none 0 0)).heap[k]? := fun k hk => by rw [Below.heap_setCell _ _ _ _ hk, Below.heap_setCell _ _ _ _ hk]
  have hblk : ∀ k, k < w.heap.size → ¬ own b sv nv k → (((w.setCell ⟨g, off, none⟩ (.slice none 0 0)).setCell ⟨b, 5, none⟩ v').setCell ⟨b, 6, none⟩ (.int .i64 ((sz s.next : Nat) - (x.length : Nat)))).heap[k]? = w.heap[k]? := fun k hk hn => by
    rw [hset k (fun e => hn (.inl e)), Below.heap_setCell _ _ _ _ (fun e => hn (.inr (.inr (by rw [hg, e]))))]
  have hM := hmsg hblk
  have hc := row_set (row_set (cs := [.int .i64 s.most, .int .i64 s.oct, .int .u8 s.first, sv, .int .i64 (sz s.sent), nv, .int .i64 (sz s.next)]) (hb1.trans h1) 5 v') 6 (.int .i64 ((sz s.next : Nat) - (x.length : Nat)))
  have hsz : ((sz s.next : Nat) : Int) - (x.length : Nat) = (sz ms : Nat) := by rw [hs, sz]; omega
  have hmine : RowAt (((w.setCell ⟨g, off, none⟩ (.slice none 0 0)).setCell ⟨b, 5, none⟩ v').setCell ⟨b, 6, none⟩ (.int .i64 ((sz s.next : Nat) - (x.length : Nat)))) v' un := hr1.at_ fun g2 hgg => hset g2 (fun e => gb (by rw [hg'] at hgg; simp at hgg; omega))
  rw [hs] at he
  have hev := he.2.mono hM
  obtain ⟨f1, f2, f3, f4, f5, f6⟩ := h9
  have e1 : s.next.length = ms.length + 1 := by rw [hs]; rfl
  have e2 : sz s.next = x.length + sz ms := by rw [hs]; rfl
  have hoth : RowAt (((w.setCell ⟨g, off, none⟩ (.slice none 0 0)).setCell ⟨b, 5, none⟩ v').setCell ⟨b, 6, none⟩ (.int .i64 ((sz s.next : Nat) - (x.length : Nat)))) sv us := h2.at_ fun g2 hgg => by
    rw [hset g2 (fun e => aws (by rw [hgg, e])), Below.heap_setCell _ _ _ _ (fun e => h6 g2 hgg (by rw [hg, e]))]
  refine ⟨⟨?_, ⟨us, hoth, h3.mono hM⟩, ⟨un, hmine, hev⟩, fun g2 e1 e2 => ?_, h7, fun g2 e => ?_, ⟨f1, f2, f3, f4, .inr (by simp only; omega), ?_⟩⟩, ⟨rfl, rfl, rfl, by simp [World.setCell], hblk, fun g2 hgg => ?_⟩⟩
  · rw [hc, hsz]
    rfl
  · exact h6 g2 e1 (by rw [hg, ← e2, hg'])
  · exact h8 g2 (by rw [hg, ← e, hg'])
  · simp only
    rcases f6 with f6 | f6
    · exact .inl (by omega)
    · exact .inr (by omega)
  · rcases hgg with e | e | e
    · exact .inl (.inl e)
    · exact .inl (.inr (.inl e))
    · exact .inl (.inr (.inr (by rw [hg, ← e, hg'])))

theorem take_sent {w : World} {b B g off : Nat} {sv nv v' u : Value} {s : Hs} {un : List Value} {x : List Int} {ms : List (List Int)} (h : HoldIn w b B sv nv s) (hs : s.sent = x :: ms) (he : Each (HMsg w B) (u :: un) s.sent) (hr1 : RowAt (w.setCell ⟨g, off, none⟩ (.slice none 0 0)) v' un) (hg : sv.ownBlock = some g) (hg' : v'.ownBlock = some g) :
    HoldIn (((w.setCell ⟨g, off, none⟩ (.slice none 0 0)).setCell ⟨b, 3, none⟩ v').setCell ⟨b, 4, none⟩ (.int .i64 ((sz s.sent : Nat) - (x.length : Nat)))) b B v' nv { s with sent := ms } ∧ Foot (own b sv nv) (own b v' nv) w (((w.setCell ⟨g, off, none⟩ (.slice none 0 0)).setCell ⟨b, 3, none⟩ v').setCell ⟨b, 4, none⟩ (.int .i64 ((sz s.sent : Nat) - (x.length : Nat)))) := by
  obtain ⟨aws, awn⟩ := h.away
  have hmsg := fun {w'} hk => h.msgs (w' := w') hk
  obtain ⟨h1, ⟨us, h2, h3⟩, ⟨uo, h4, h5⟩, h6, h7, h8, h9⟩ := h
  have hlt := heap_lt h1
  have gb : g ≠ b := fun e => aws (by rw [hg, e])
  have hb1 : (w.setCell ⟨g, off, none⟩ (.slice none 0 0)).heap[b]? = w.heap[b]? := Below.heap_setCell _ _ _ _ gb.symm
  have hset : ∀ k, k ≠ b → (((w.setCell ⟨g, off, none⟩ (.slice none 0 0)).setCell ⟨b, 3, none⟩ v').setCell ⟨b, 4, none⟩ (.int .i64 ((sz s.sent : Nat) - (x.length : Nat)))).heap[k]? = (w.setCell ⟨g, off, none⟩ (.slice none 0 0)).heap[k]? := fun k hk => by rw [Below.heap_setCell _ _ _ _ hk, Below.heap_setCell _ _ _ _ hk]
  have hblk : ∀ k, k < w.heap.size → ¬ own b sv nv k → (((w.setCell ⟨g, off, none⟩ (.slice none 0 0)).setCell ⟨b, 3, none⟩ v').setCell ⟨b, 4, none⟩ (.int .i64 ((sz s.sent : Nat) - (x.length : Nat)))).heap[k]? = w.heap[k]? := fun k hk hn => by
    rw [hset k (fun e => hn (.inl e)), Below.heap_setCell _ _ _ _ (fun e => hn (.inr (.inl (by rw [hg, e]))))]
  have hM := hmsg hblk
  have hc := row_set (row_set (cs := [.int .i64 s.most, .int .i64 s.oct, .int .u8 s.first, sv, .int .i64 (sz s.sent), nv, .int .i64 (sz s.next)]) (hb1.trans h1) 3 v') 4 (.int .i64 ((sz s.sent : Nat) - (x.length : Nat)))
  have hsz : ((sz s.sent : Nat) : Int) - (x.length : Nat) = (sz ms : Nat) := by rw [hs, sz]; omega
  have hmine : RowAt (((w.setCell ⟨g, off, none⟩ (.slice none 0 0)).setCell ⟨b, 3, none⟩ v').setCell ⟨b, 4, none⟩ (.int .i64 ((sz s.sent : Nat) - (x.length : Nat)))) v' un := hr1.at_ fun g2 hgg => hset g2 (fun e => gb (by rw [hg'] at hgg; simp at hgg; omega))
  rw [hs] at he
  have hev := he.2.mono hM
  obtain ⟨f1, f2, f3, f4, f5, f6⟩ := h9
  have e1 : s.sent.length = ms.length + 1 := by rw [hs]; rfl
  have e2 : sz s.sent = x.length + sz ms := by rw [hs]; rfl
  have hoth : RowAt (((w.setCell ⟨g, off, none⟩ (.slice none 0 0)).setCell ⟨b, 3, none⟩ v').setCell ⟨b, 4, none⟩ (.int .i64 ((sz s.sent : Nat) - (x.length : Nat)))) nv uo := h4.at_ fun g2 hgg => by
    rw [hset g2 (fun e => awn (by rw [hgg, e])), Below.heap_setCell _ _ _ _ (fun e => h6 g2 (by rw [hg, e]) hgg)]
  refine ⟨⟨?_, ⟨un, hmine, hev⟩, ⟨uo, hoth, h5.mono hM⟩, fun g2 e1 e2 => ?_, fun g2 e => ?_, h8, ⟨f1, f2, f3, by simp only; omega, .inr (by simp only; omega), ?_⟩⟩, ⟨rfl, rfl, rfl, by simp [World.setCell], hblk, fun g2 hgg => ?_⟩⟩
  · rw [hc, hsz]
    rfl
  · exact h6 g2 (by rw [hg, ← e1, hg']) e2
  · exact h7 g2 (by rw [hg, ← e, hg'])
  · simp only
    rcases f6 with f6 | f6
    · exact .inl (by omega)
    · exact .inr (by omega)
  · rcases hgg with e | e | e
    · exact .inl (.inl e)
    · exact .inl (.inr (.inl (by rw [hg, ← e, hg'])))
    · exact .inl (.inr (.inr e))
end Go.Proofs.YtldjglmelbkngaaGreat.Tape
