/- The walk of the law OutageTwice. -/
import Derived.Test.YteemfdbhcehfgaaOut1
import Derived.Deep.RegionHeld
import Derived.Deep.MidRow
namespace Go.Proofs.Yteemfdbhcehfgaa.Tape
open Go.ChangeShapes Go.WideShapes Go.ChangeAt Go.RowKit
set_option linter.unusedVariables false

/-- An Outage loaded whole, under a name of its own. -/
def ldO (v : Value) : Sem Value := Instr.loadAt 23 v
theorem ldO_def (v : Value) : Instr.loadAt 23 v = ldO v := rfl
theorem ld_out {w : World} {p : Nat} {a b c : Bool} (h : OutAt w p a b c) : (ldO (.pointer (some ⟨p, 0, none⟩))).run Try.prog w = .ok (.agg #[.bool a, .bool b, .bool c]) w :=
  run_loadAt_mid w p 0 23 [.bool a, .bool b, .bool c] _ (World.rangeAt_of_block h 0 3) Try.underlying23 rfl (by kernel_rfl)

theorem same_out (a b c : Bool) (w : World) : (Op.equalIn 10000 23 (.agg #[.bool a, .bool b, .bool c]) (.agg #[.bool a, .bool b, .bool c])).run Try.prog w = .ok true w := by
  cases a <;> cases b <;> cases c <;> (show _ = _; kernel_rfl)

/-- What is said the second time. -/
theorem remote_again (a o u : Bool) (w : World) (h : (u || o) = u) : Calls Try.prog 11 #[.agg #[.bool a, .bool o, .bool u], .bool o] w fun e w' => e = .returned (.tuple #[.agg #[.bool a, .bool o, .bool u], .bool false]) ∧ Below w.heap.size w w' := by
  have := remote_any a o u o w
  rwa [h, show (o != o) = false by simp] at this
theorem cont_at (a o u d g : Bool) (w : World) (hg : goes a o = g) (hd : (u && !g) = d) : Calls Try.prog 12 #[.agg #[.bool a, .bool o, .bool u]] w fun e w' => e = .returned (.tuple #[.agg #[.bool a, .bool o, .bool d], .bool g]) ∧ Below w.heap.size w w' := by
  have := cont_any a o u w
  rwa [hg, hd] at this

attribute [local go_sem ↓] ldO_def

set_option maxRecDepth 100000 in
set_option maxHeartbeats 2000000 in
theorem outtwice_walk (v : Value) (o : Bool) (w : World) (hv : IsOutage w v) : Calls Try.prog 5 #[v, .bool o] w fun e w' => e = .returned (.bool true) ∧ Below w.heap.size w w' := by
  obtain ⟨a, b, c, rfl⟩ := hv
  obtain ⟨u, hu⟩ : ∃ u, (c || o) = u := ⟨_, rfl⟩
  obtain ⟨g, hg⟩ : ∃ g, goes a o = g := ⟨_, rfl⟩
  obtain ⟨d, hd⟩ : ∃ d, (u && !g) = d := ⟨_, rfl⟩
  obtain ⟨n, hn⟩ : ∃ n, (b != o) = n := ⟨_, rfl⟩
  have huo : (u || o) = u := by rw [← hu, Bool.or_assoc, Bool.or_self]
  have hdd : (d && !g) = d := by rw [← hd, Bool.and_assoc, Bool.and_self]
  have HU : Hid ((u || o) = u) := huo
  have HG : Hid (goes a o = g) := hg
  have HD : Hid ((u && !g) = d) := hd
  have HDD : Hid ((d && !g) = d) := hdd
  have hremote : ∀ W, Calls Try.prog 11 #[.agg #[.bool a, .bool b, .bool c], .bool o] W fun e w' => e = .returned (.tuple #[.agg #[.bool a, .bool o, .bool u], .bool n]) ∧ Below W.heap.size W w' := fun W => by
    have := remote_any a b c o W
    rwa [hu, hn] at this
  clear hu hg hd hn huo hdd
  have hO0 := OutAt.new w a b c
  have hB0 := (Below.refl w.heap.size w).alloc (Nat.le_refl _) (.cells #[.bool a, .bool b, .bool c] 23)
  have hl0 := ld_out hO0
  go_enter Try.func5, Try.ntmps5
  go_wp2_with fail
  refine (local_any a b c o _).mono ?_
  rintro e w1 ⟨rfl, hb⟩
  replace hO0 := hO0.keep hb hO0.lt
  replace hB0 := hB0.trans (hb.mono hB0.size)
  clear hb hl0
  have hO1 := OutAt.new w1 o b c
  have hb := (Below.refl w1.heap.size w1).alloc (Nat.le_refl _) (.cells #[.bool o, .bool b, .bool c] 23)
  replace hO0 := hO0.keep hb hO0.lt
  replace hB0 := hB0.trans (hb.mono hB0.size)
  clear hb
  have hl := ld_out hO0
  go_wp2_with fail
  refine (hremote _).mono ?_
  rintro e w2 ⟨rfl, hb⟩
  replace hO0 := hO0.keep hb hO0.lt
  replace hO1 := hO1.keep hb hO1.lt
  replace hB0 := hB0.trans (hb.mono hB0.size)
  clear hb hl
  have hO2 := OutAt.new w2 a o u
  have hb := (Below.refl w2.heap.size w2).alloc (Nat.le_refl _) (.cells #[.bool a, .bool o, .bool u] 23)
  replace hO0 := hO0.keep hb hO0.lt
  replace hO1 := hO1.keep hb hO1.lt
  replace hB0 := hB0.trans (hb.mono hB0.size)
  clear hb
  have hl := ld_out hO2
  generalize w1.heap.size = p1 at *
  go_wp2_with fail
  refine (remote_again a o u _ HU.out).mono ?_
  rintro e w3 ⟨rfl, hb⟩
  replace hO0 := hO0.keep hb hO0.lt
  replace hO1 := hO1.keep hb hO1.lt
  replace hO2 := hO2.keep hb hO2.lt
  replace hB0 := hB0.trans (hb.mono hB0.size)
  clear hb hl
  have hO3 := OutAt.new w3 a o u
  have hb := (Below.refl w3.heap.size w3).alloc (Nat.le_refl _) (.cells #[.bool a, .bool o, .bool u] 23)
  replace hO0 := hO0.keep hb hO0.lt
  replace hO1 := hO1.keep hb hO1.lt
  replace hO2 := hO2.keep hb hO2.lt
  replace hB0 := hB0.trans (hb.mono hB0.size)
  clear hb
  have hl := ld_out hO2
  generalize w2.heap.size = p2 at *
  go_wp2_with fail
  refine (cont_at a o u d g _ HG.out HD.out).mono ?_
  rintro e w4 ⟨rfl, hb⟩
  replace hO0 := hO0.keep hb hO0.lt
  replace hO1 := hO1.keep hb hO1.lt
  replace hO2 := hO2.keep hb hO2.lt
  replace hO3 := hO3.keep hb hO3.lt
  replace hB0 := hB0.trans (hb.mono hB0.size)
  clear hb hl
  have hO4 := OutAt.new w4 a o d
  have hb := (Below.refl w4.heap.size w4).alloc (Nat.le_refl _) (.cells #[.bool a, .bool o, .bool d] 23)
  replace hO0 := hO0.keep hb hO0.lt
  replace hO1 := hO1.keep hb hO1.lt
  replace hO2 := hO2.keep hb hO2.lt
  replace hO3 := hO3.keep hb hO3.lt
  replace hB0 := hB0.trans (hb.mono hB0.size)
  clear hb
  have hl := ld_out hO4
  generalize w3.heap.size = p3 at *
  go_wp2_with fail
  refine (cont_at a o d d g _ HG.out HDD.out).mono ?_
  rintro e w5 ⟨rfl, hb⟩
  replace hO0 := hO0.keep hb hO0.lt
  replace hO1 := hO1.keep hb hO1.lt
  replace hO2 := hO2.keep hb hO2.lt
  replace hO3 := hO3.keep hb hO3.lt
  replace hO4 := hO4.keep hb hO4.lt
  replace hB0 := hB0.trans (hb.mono hB0.size)
  clear hb hl
  have hO5 := OutAt.new w5 a o d
  have hb := (Below.refl w5.heap.size w5).alloc (Nat.le_refl _) (.cells #[.bool a, .bool o, .bool d] 23)
  replace hO0 := hO0.keep hb hO0.lt
  replace hO1 := hO1.keep hb hO1.lt
  replace hO2 := hO2.keep hb hO2.lt
  replace hO3 := hO3.keep hb hO3.lt
  replace hO4 := hO4.keep hb hO4.lt
  replace hB0 := hB0.trans (hb.mono hB0.size)
  clear hb
  generalize w4.heap.size = p4 at *
  go_wp2_with fail
  generalize w5.heap.size = p5 at *
  generalize w.heap.size = p0 at hO0 ⊢
  obtain ⟨X, hX⟩ : ∃ X, X = w5.alloc (.cells #[.bool a, .bool o, .bool d] 23) := ⟨_, rfl⟩
  rw [← hX] at hO0 hO1 hO2 hO3 hO4 hO5 hB0 ⊢
  clear hX hO0
  have HC : Hid (∀ W, Below X.heap.size X W → (ldO (.pointer (some ⟨p1, 0, none⟩))).run Try.prog W = .ok (.agg #[.bool o, .bool b, .bool c]) W ∧ (ldO (.pointer (some ⟨p3, 0, none⟩))).run Try.prog W = .ok (.agg #[.bool a, .bool o, .bool u]) W ∧ (ldO (.pointer (some ⟨p2, 0, none⟩))).run Try.prog W = .ok (.agg #[.bool a, .bool o, .bool u]) W ∧ (ldO (.pointer (some ⟨p5, 0, none⟩))).run Try.prog W = .ok (.agg #[.bool a, .bool o, .bool d]) W ∧ (ldO (.pointer (some ⟨p4, 0, none⟩))).run Try.prog W = .ok (.agg #[.bool a, .bool o, .bool d]) W) :=
    fun W hW => ⟨ld_out (hO1.keep hW hO1.lt), ld_out (hO3.keep hW hO3.lt), ld_out (hO2.keep hW hO2.lt), ld_out (hO5.keep hW hO5.lt), ld_out (hO4.keep hW hO4.lt)⟩
  have HB : Hid (Below w.heap.size w X) := hB0
  have hBd : Below X.heap.size X X.drew := (Below.refl _ _).drew
  have hq1 := same_out o b c
  have hq2 := same_out a o u
  have hq3 := same_out a o d
  have haw := awake15_any
  clear hO1 hO2 hO3 hO4 hO5 hB0 HU HG HD HDD hremote
  go_region_held (fun W => (ldO (.pointer (some ⟨p1, 0, none⟩))).run Try.prog W = .ok (.agg #[.bool o, .bool b, .bool c]) W ∧ (ldO (.pointer (some ⟨p3, 0, none⟩))).run Try.prog W = .ok (.agg #[.bool a, .bool o, .bool u]) W ∧ (ldO (.pointer (some ⟨p2, 0, none⟩))).run Try.prog W = .ok (.agg #[.bool a, .bool o, .bool u]) W ∧ (ldO (.pointer (some ⟨p5, 0, none⟩))).run Try.prog W = .ok (.agg #[.bool a, .bool o, .bool d]) W ∧ (ldO (.pointer (some ⟨p4, 0, none⟩))).run Try.prog W = .ok (.agg #[.bool a, .bool o, .bool d]) W) ((refine HC.out _ ?_; assumption)) (first
    | (go_at_call 10; refine (local_any o b c o _).mono ?_; rintro e w7 ⟨rfl, hb7⟩; have hB7 := hB6.trans (hb7.mono hB6.size))
    | (go_at_call 13; refine (awake15_any _).mono ?_; rintro e w6 ⟨rfl, hb6⟩; have hB6 := hBd.trans (hb6.mono hBd.size)))
  all_goals (go_wp2; go_ret; exact ⟨ret_bool (by simp), HB.out.trans (hB7.mono HB.out.size)⟩)
end Go.Proofs.Yteemfdbhcehfgaa.Tape
