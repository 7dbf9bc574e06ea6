/- A slice of acts on a link that came in, opened. -/
import Derived.Test.YtldjglmelbkngaaGreatBase
import Derived.Deep.Slices
import Derived.Lib.SmallJoins
import Derived.Deep.MidRow
namespace Go.Proofs.YtldjglmelbkngaaGreat.Tape
open Go.ChangeShapes Go.WideShapes Go.ChangeAt Go.RowKit Go.Deep
set_option linter.unusedVariables false

/-- What a law is told of a slice of acts that came in. -/
def Acts (w : World) (a : Option Addr) (len : Nat) : Prop :=
  ∀ i, i < len → ∃ g off, a = some ⟨g, off, none⟩ ∧ ∃ (k x b f : Int) (p q : Bool) (kd st : Int) (wd : Bool) (ao : Option Addr) (n cap : Nat) (xs : List Int),
    (w.cell? ⟨g, off + i * 10, none⟩ = some (.int .u8 k) ∧ w.cell? ⟨g, off + i * 10 + 1, none⟩ = some (.int .u8 x)) ∧
    (w.cell? ⟨g, off + i * 10 + 2, none⟩ = some (.int .u8 b) ∧ w.cell? ⟨g, off + i * 10 + 3, none⟩ = some (.int .u8 f) ∧ w.cell? ⟨g, off + i * 10 + 4, none⟩ = some (.bool p) ∧ w.cell? ⟨g, off + i * 10 + 5, none⟩ = some (.bool q) ∧ w.cell? ⟨g, off + i * 10 + 6, none⟩ = some (.int .u8 kd) ∧ w.cell? ⟨g, off + i * 10 + 7, none⟩ = some (.int .u8 st) ∧ w.cell? ⟨g, off + i * 10 + 8, none⟩ = some (.bool wd) ∧ w.cell? ⟨g, off + i * 10 + 9, none⟩ = some (.slice ao n cap)) ∧
    (0 ≤ k ∧ k ≤ 255) ∧ (0 ≤ x ∧ x ≤ 255) ∧ (0 ≤ b ∧ b ≤ 255) ∧ (0 ≤ f ∧ f ≤ 255) ∧ (0 ≤ kd ∧ kd ≤ 255) ∧ xs.length = n ∧ n ≤ maxLen ∧ (ao = none → cap = 0) ∧ Reads w ao (xs.map (.int .u8)) ∧ ∀ y ∈ xs, 0 ≤ y ∧ y ≤ 255

theorem acells : Tryz.prog.cellsOf 34 = 10 := by kernel_rfl
theorem ucells17 : Tryz.prog.cellsOf 32 = 8 := by kernel_rfl
theorem ocells17 : Tryz.prog.cellsOf 5 = 1 := by kernel_rfl
theorem lcells17 : Tryz.prog.cellsOf 4 = 1 := by kernel_rfl
theorem bcells17 : Tryz.prog.cellsOf 30 = 1 := by kernel_rfl

set_option maxRecDepth 100000 in
theorem acts_open {H : Type} {enc : TypeId × Value → H} {W : World} {fuel : Nat} {a : Option Addr} {len cap : Nat} {x : DataW H × List MemPlace}
    (h : DataW.trod enc Tryz.prog W 0 (fun _ => true) true fuel 22 [.slice a len cap] = some x) : len ≤ maxLen ∧ Acts W a len := by
  rcases open_slice Tryz.underlying22 h with ⟨hcs, _⟩ | ⟨b, l, c, m, n, D, Pl, hcs, _, hl, hm, hmm, _, hall⟩
  · simp only [List.cons.injEq, Value.slice.injEq, and_true] at hcs
    obtain ⟨rfl, rfl, rfl⟩ := hcs
    exact ⟨Nat.zero_le _, fun i hi => by omega⟩
  · simp only [List.cons.injEq, Value.slice.injEq, and_true] at hcs
    obtain ⟨rfl, rfl, rfl⟩ := hcs
    refine ⟨Nat.le_trans hl hm, fun i hi => ?_⟩
    simp only [if_true] at hmm
    obtain ⟨cs', h1, h2⟩ := hall i (by omega)
    rw [acells] at h1
    obtain ⟨_, hlen, hcell⟩ := World.cells?_some h1
    obtain ⟨xs, k, -, -, -, hxl, hf⟩ := DataW.trod_struct Tryz.underlying34 h2
    match xs, hxl, cs', hlen with
    | [y0, y1, y2], _, [v0, v1, v2, v3, v4, v5, v6, v7, v8, v9], _ =>
      have g0 := hf 0 _ rfl
      have g1 := hf 1 _ rfl
      have g2 := hf 2 _ rfl
      simp [ocells17, ucells17] at g0 g1 g2
      obtain ⟨us, k2, -, -, -, hul, hg⟩ := DataW.trod_struct Tryz.underlying32 g2
      match us, hul with
      | [z0, z1, z2, z3, z4, z5, z6, z7], _ =>
        have t0 := hg 0 _ rfl
        have t1 := hg 1 _ rfl
        have t2 := hg 2 _ rfl
        have t3 := hg 3 _ rfl
        have t4 := hg 4 _ rfl
        have t5 := hg 5 _ rfl
        have t6 := hg 6 _ rfl
        have t7 := hg 7 _ rfl
        simp [ocells17, lcells17, bcells17] at t0 t1 t2 t3 t4 t5 t6 t7
        have e0 := hcell 0 (by omega)
        have e1 := hcell 1 (by omega)
        have e2 := hcell 2 (by omega)
        have e3 := hcell 3 (by omega)
        have e4 := hcell 4 (by omega)
        have e5 := hcell 5 (by omega)
        have e6 := hcell 6 (by omega)
        have e7 := hcell 7 (by omega)
        have e8 := hcell 8 (by omega)
        have e9 := hcell 9 (by omega)
        rw [add_add] at e0 e1 e2 e3 e4 e5 e6 e7 e8 e9
        obtain ⟨kk, r0, -, wk⟩ := DataW.trod_int Tryz.underlying5 g0
        obtain ⟨xx, r1, -, wx⟩ := DataW.trod_int Tryz.underlying5 g1
        obtain ⟨bb, s0, -, wb⟩ := DataW.trod_int Tryz.underlying5 t0
        obtain ⟨ff, s1, -, wf⟩ := DataW.trod_int Tryz.underlying5 t1
        obtain ⟨pp, s2, -⟩ := DataW.trod_bool Tryz.underlying4 t2
        obtain ⟨qq, s3, -⟩ := DataW.trod_bool Tryz.underlying4 t3
        obtain ⟨kd, s4, -, wkd⟩ := DataW.trod_int Tryz.underlying5 t4
        obtain ⟨st, s5, -, wst⟩ := DataW.trod_int Tryz.underlying5 t5
        obtain ⟨wd, s6, -⟩ := DataW.trod_bool Tryz.underlying4 t6
        simp only [List.cons.injEq, and_true] at r0 r1 s0 s1 s2 s3 s4 s5 s6
        subst r0 r1 s0 s1 s2 s3 s4 s5 s6
        obtain ⟨gg, off, spot⟩ := b
        have hspot : spot = none := by
          obtain ⟨cs0, h10, _⟩ := hall 0 (by omega)
          rw [acells] at h10
          obtain ⟨_, hlen0, hcell0⟩ := World.cells?_some h10
          have e00 := hcell0 0 (by omega)
          rw [add_add, List.getElem?_eq_getElem (show 0 < cs0.length by omega)] at e00
          simpa [Addr.add] using World.cell?_spot e00
        subst hspot
        rw [Addr.add_lit] at e0 e1 e2 e3 e4 e5 e6 e7 e8 e9
        have B0 := bounds_u8 wk
        have B1 := bounds_u8 wx
        have B2 := bounds_u8 wb
        have B3 := bounds_u8 wf
        have B4 := bounds_u8 wkd
        rcases open_ints Tryz.underlying30 Tryz.underlying5 (by kernel_rfl) t7 with ⟨hcs, _⟩ | ⟨x, l, c, zs, hcs, _, hl, hm, hz, _, hcl, hwz⟩
        · simp at hcs
          subst hcs
          exact ⟨gg, off, rfl, kk, xx, bb, ff, pp, qq, kd, st, wd, none, 0, 0, [], ⟨by simpa using e0, by simpa [Nat.add_assoc] using e1⟩, ⟨by simpa [Nat.add_assoc] using e2, by simpa [Nat.add_assoc] using e3, by simpa [Nat.add_assoc] using e4, by simpa [Nat.add_assoc] using e5, by simpa [Nat.add_assoc] using e6, by simpa [Nat.add_assoc] using e7, by simpa [Nat.add_assoc] using e8, by simpa [Nat.add_assoc] using e9⟩, B0, B1, B2, B3, B4, rfl, Nat.zero_le _, fun _ => rfl, Reads.nil _ _, by simp⟩
        · simp at hcs
          subst hcs
          simp at hz
          exact ⟨gg, off, rfl, kk, xx, bb, ff, pp, qq, kd, st, wd, some x, l, c, zs.take l, ⟨by simpa using e0, by simpa [Nat.add_assoc] using e1⟩, ⟨by simpa [Nat.add_assoc] using e2, by simpa [Nat.add_assoc] using e3, by simpa [Nat.add_assoc] using e4, by simpa [Nat.add_assoc] using e5, by simpa [Nat.add_assoc] using e6, by simpa [Nat.add_assoc] using e7, by simpa [Nat.add_assoc] using e8, by simpa [Nat.add_assoc] using e9⟩, B0, B1, B2, B3, B4, by simp; omega, Nat.le_trans hl hm, fun e => absurd e (by simp), Reads.of_bytes hcl (by omega), fun y hy => bounds_u8 (hwz y (List.mem_of_mem_take hy))⟩
/-- An act loaded, under a name of its own. -/
def ldAc (v : Value) : Sem Value := Instr.loadAt 34 v
theorem ldAc_def (v : Value) : Instr.loadAt 34 v = ldAc v := rfl
theorem infoAc : (Tryz.prog.info? 34).map (·.size) = some 10 := by kernel_rfl
/-- An act of those that came in, in a later world. -/
theorem Acts.at_ {w w' : World} {a : Option Addr} {len : Nat} (h : Acts w a len) (hb : Below w.heap.size w w') (i : Nat) (hi : i < len) :
    ∃ g off, a = some ⟨g, off, none⟩ ∧ ∃ (k x b f : Int) (p q : Bool) (kd st : Int) (wd : Bool) (ao : Option Addr) (n cap : Nat) (xs : List Int),
      w'.cell? ⟨g, off + i * 10 + 9, none⟩ = some (.slice ao n cap) ∧
      (ldAc (.pointer (some ⟨g, off + i * 10, none⟩))).run Tryz.prog w' = .ok (.agg #[.int .u8 k, .int .u8 x, .int .u8 b, .int .u8 f, .bool p, .bool q, .int .u8 kd, .int .u8 st, .bool wd, .slice ao n cap]) w' ∧
      (0 ≤ k ∧ k ≤ 255) ∧ (0 ≤ x ∧ x ≤ 255) ∧ (0 ≤ b ∧ b ≤ 255) ∧ (0 ≤ f ∧ f ≤ 255) ∧ (0 ≤ kd ∧ kd ≤ 255) ∧ xs.length = n ∧ n ≤ maxLen ∧ (ao = none → cap = 0) ∧ Reads w ao (xs.map (.int .u8)) := by
  obtain ⟨g, off, e, k, x, b, f, p, q, kd, st, wd, ao, n, cap, xs, ⟨c0, c1⟩, ⟨c2, c3, c4, c5, c6, c7, c8, c9⟩, hk, hx, hb0, hf, hkd, hn, hm, hnil, hrd, -⟩ := h i hi
  have up : ∀ {j : Nat} {v : Value}, w.cell? ⟨g, j, none⟩ = some v → w'.cell? ⟨g, j, none⟩ = some v := fun hc => (hb.cell (World.block_lt_of_cell? w _ hc)).trans hc
  refine ⟨g, off, e, k, x, b, f, p, q, kd, st, wd, ao, n, cap, xs, up c9, ?_, hk, hx, hb0, hf, hkd, hn, hm, hnil, hrd⟩
  refine run_loadAt_mid (P := Tryz.prog) w' g (off + i * 10) 34 [.int .u8 k, .int .u8 x, .int .u8 b, .int .u8 f, .bool p, .bool q, .int .u8 kd, .int .u8 st, .bool wd, .slice ao n cap] _ ?_ Tryz.underlying34 rfl (by rw [infoAc]; simp)
  intro j v hj
  have hj10 : j < 10 := (List.getElem?_eq_some_iff.1 hj).1
  have : j = 0 ∨ j = 1 ∨ j = 2 ∨ j = 3 ∨ j = 4 ∨ j = 5 ∨ j = 6 ∨ j = 7 ∨ j = 8 ∨ j = 9 := by omega
  rcases this with rfl | rfl | rfl | rfl | rfl | rfl | rfl | rfl | rfl | rfl
  all_goals (simp only [List.getElem?_cons_zero, List.getElem?_cons_succ, Option.some.injEq] at hj; subst hj; exact up (by assumption))
end Go.Proofs.YtldjglmelbkngaaGreat.Tape
