/- The contracts of rest's Check and With, and of slices.Grow and slices.Concat as With uses them. -/
import Derived.Test.YtfjfnfofbhikdaaRest1
import Derived.Lib.AppendZeros
namespace Go.Proofs.Ytfjfnfofbhikdaa.Tape
open Go.ChangeShapes Go.WideShapes Go.ChangeAt Go.RowKit

theorem num_not (x : BitVec 16) : Go.bits BinOp.xor IntKind.u16 IntKind.u16.max (num x) = num (~~~x) := by
  have h := num_range x
  rw [show IntKind.u16.max = 65535 from rfl, u16_xor 65535 (num x) (by decide) (by decide) h.1 h.2, not_eq, num, num, BitVec.toNat_xor, Nat.xor_comm]
  rfl

theorem chk_num (xs : List Int) (a : Int) (h : a = num (~~~ crc 0xffff#16 (bits xs))) : (chk xs).map (Value.int .u8) = [.int .u8 (a % 256), .int .u8 (a / 256 % 256)] := by
  have hr := num_range (~~~ crc 0xffff#16 (bits xs))
  rw [← h] at hr
  rw [show a / 256 % 256 = a / 256 from by omega, h]
  rfl

set_option maxRecDepth 100000 in
set_option maxHeartbeats 400000 in
theorem check_any (ao : Option Addr) (cap n : Nat) (xs : List Int) (w : World) (hn : xs.length = n) (hl : n ≤ 100000) (hx : ∀ x ∈ xs, 0 ≤ x ∧ x ≤ 255) (h : Reads w ao (xs.map (.int .u8))) :
    Calls Try.prog 45 #[.slice ao n cap] w fun e w' => ∃ v, e = .returned v ∧ w'.ownsRow w.heap.size 5 1 v 2 ((chk xs).map (.int .u8)) ∧ Below w.heap.size w w' := by
  have hof := of_any ao cap xs w (by omega) hx h
  rw [hn] at hof
  go_enter Try.func45, Try.ntmps45
  go_wp2_with fail
  refine hof.mono ?_
  rintro e w1 ⟨v, rfl, hown, hb1⟩
  obtain ⟨vo, ca, rfl, hca, hr, -⟩ := owns_form hown
  go_wp2_with fail
  refine (crc_any _ _ _ _ _ (by rw [bits_len, hn]) (by omega) hr).mono ?_
  rintro e w2 ⟨rfl, rfl⟩
  have hrg := num_range (crc 0xffff#16 (bits xs))
  obtain ⟨a, ha⟩ : ∃ a : Int, a = num (crc 0xffff#16 (bits xs)) := ⟨_, rfl⟩
  rw [← ha] at hrg ⊢
  have HA : Hid (a = num (crc 0xffff#16 (bits xs))) := ha
  clear ha hof
  have hxr : Go.bits BinOp.xor IntKind.u16 IntKind.u16.max a = num (~~~ crc 0xffff#16 (bits xs)) := by rw [HA.out, num_not]
  obtain ⟨B, hB⟩ : ∃ B : Int, B = num (~~~ crc 0xffff#16 (bits xs)) := ⟨_, rfl⟩
  rw [← hB] at hxr
  have HB : Hid (B = num (~~~ crc 0xffff#16 (bits xs))) := hB
  have hBr := num_range (~~~ crc 0xffff#16 (bits xs))
  rw [← hB] at hBr
  clear hB
  go_wp2
  go_ret
  refine ⟨_, rfl, ?_, hb1.alloc hb1.size _⟩
  rw [chk_num xs B HB.out]
  exact owns_new hb1.size _ 2 rfl (by unfold maxLen; omega)

set_option maxRecDepth 100000 in
set_option maxHeartbeats 400000 in
theorem grow_nil (n : Nat) (w : World) (h0 : 0 < n) (hl : n ≤ 1000000) :
    Calls Try.prog 49 #[.slice none 0 0, .int .i64 n] w fun e w' => ∃ v, e = .returned v ∧ w'.ownsRow w.heap.size 5 1 v 0 [] ∧ Below w.heap.size w w' := by
  obtain ⟨i0, hi, hz0, hz1, hz2⟩ := info_parts info5
  have hrz := fun ty => Lib.run_append_nil_zeros w 22 3 ty 5 i0 (.int .u8 0) .i64 .i64 Try.underlying22 Try.underlying3 hi hz0 n h0 (by omega) (by omega) (by rw [hz2]; omega)
  have hG := grownCap_le_maxLen w n 0 5 (by unfold maxLen; omega)
  obtain ⟨G, hGe⟩ : ∃ G, G = grownCap w n 0 5 := ⟨_, rfl⟩
  have hGn : n ≤ G := by rw [hGe]; exact grownCap_ge w _ _ _
  rw [← hGe] at hrz hG
  clear hGe
  go_enter Try.func49, Try.ntmps49
  go_wp2_with (at_builtin; refine Lib.wpList_append_run _ rfl _ _ _ _ rfl _ _ rfl rfl _ _ (hrz _) ?_)
  go_ret
  exact ⟨_, rfl, (World.ownsRow_made w _ G (Nat.le_refl _) hG (by simp [Builtin.zeroCells]; omega)).drew, ((Below.refl _ _).alloc (Nat.le_refl _) _).drew⟩

/-- What is appended: a slice that reads vs, nil or not. -/
theorem append_reads {w : World} {ops : Array Oper} {rest : List Oper} {o : Oper} {a : Act} {Q : Exit → Act → World → Prop} (hgd : o.guard = none) (s x : Operand)
    (ho : o.op = .call { callee := .builtin .append, args := #[s, x], argTypes := #[22, 22] }) (base : Nat) (v : Value) (n : Nat) (us : List Value) (hs : a.eval s = v) (hown : w.ownsRow base 5 1 v n us)
    (ao : Option Addr) (m c : Nat) (xs : List Int) (hx : a.eval x = .slice ao m c) (hl : xs.length = m) (hr : Reads w ao (xs.map (.int .u8))) (hnil : ao = none → c = 0)
    (h63 : n + m ≤ 1000000) (hbase : base ≤ w.heap.size)
    (h : ∀ v' w', w'.ownsRow base 5 1 v' (n + m) (us ++ xs.map (.int .u8)) → Below base w w' → wpList Try.prog ops Q rest (a.put o.dst v') w') : wpList Try.prog ops Q (o :: rest) a w := by
  obtain ⟨i0, hi, hz0, hz1, hz2⟩ := info_parts info5
  cases ao with
  | none =>
    have e := hr.none_nil
    have e' : xs = [] := by simpa using e
    subst e'
    have hm : m = 0 := by simpa using hl.symm
    subst hm
    obtain rfl := hnil rfl
    refine wpList_append_own_none hgd s x 22 ho base 5 i0 1 Try.underlying22 hi v n us hs hown hx ?_
    exact h v w (by simpa using hown) (Below.refl _ _)
  | some ad =>
    refine wpList_append_own w hgd s x 22 ho base 5 i0 (.int .u8 0) 1 1 Try.underlying22 hi hz0 hz1 hz2 rfl (by decide) v n us hs hown ad m c (xs.map (.int .u8)) hx (by simp [hl]) hr.at (by simp [Value.oneCell']) (by unfold maxLen; omega) (by omega) hbase ?_
    intro v' w' hown' hgrow _
    exact h v' w' hown' ((Below.refl base w).grown hgrow hbase (fun k hk => (hown.lt k hk).1))

set_option maxRecDepth 100000 in
set_option maxHeartbeats 1000000 in
theorem concat_two (g : Nat) (a0 a1 : Option Addr) (n0 n1 c0 c1 : Nat) (xs ys : List Int) (w : World) (hc0 : w.cell? ⟨g, 0, none⟩ = some (.slice a0 n0 c0)) (hc1 : w.cell? ⟨g, 1, none⟩ = some (.slice a1 n1 c1))
    (h0 : 0 < n0 + n1) (hl0 : xs.length = n0) (hl1 : ys.length = n1) (hn0 : n0 ≤ 100000) (hn1 : n1 ≤ 100000) (hr0 : Reads w a0 (xs.map (.int .u8))) (hr1 : Reads w a1 (ys.map (.int .u8))) (hz0 : a0 = none → c0 = 0) (hz1 : a1 = none → c1 = 0) :
    Calls Try.prog 44 #[.slice (some ⟨g, 0, none⟩) 2 2] w fun e w' => ∃ v, e = .returned v ∧ w'.ownsRow w.heap.size 5 1 v (n0 + n1) ((xs ++ ys).map (.int .u8)) ∧ Below w.heap.size w w' := by
  have hgl : g < w.heap.size := World.block_lt_of_cell? w ⟨g, 0, none⟩ hc0
  have H0 : Hid (xs.length = n0) := hl0
  have H1 : Hid (ys.length = n1) := hl1
  obtain ⟨S, hS⟩ : ∃ S : Nat, S = n0 + n1 := ⟨_, rfl⟩
  have HS : Hid (S = n0 + n1) := hS
  have hS1 : S ≤ 200000 := by omega
  have hS0 : 0 < S := by omega
  rw [← hS]
  clear hl0 hl1 h0 hS
  go_enter Try.func44, Try.ntmps44
  go_wp2
  go_loop [3, 11] (fun z i => (z = .int .i64 0 ∧ i = .int .i64 0) ∨ (z = .int .i64 n0 ∧ i = .int .i64 1) ∨ (z = .int .i64 S ∧ i = .int .i64 2)) (fun _ i => 2 - (intOf i).toNat)
  case atStart => exact .inl ⟨rfl, rfl⟩
  case round =>
    rcases hrel with ⟨rfl, rfl⟩ | ⟨rfl, rfl⟩ | ⟨rfl, rfl⟩
    · go_wp2
      go_round
      case rel => exact .inr (.inl ⟨by go_num, rfl⟩)
      case measure => simp [intOf]
    · go_wp2
      go_round
      case rel => exact .inr (.inr ⟨by congr 1; have := HS.out; omega, rfl⟩)
      case measure => simp [intOf]
    · go_wp2_with (go_at_call 49; refine (grow_nil S _ hS0 (by omega)).mono ?_; rintro e w1 ⟨v, rfl, hown1, hb1⟩)
      go_loopw [6, 27] (fun v i wr => Below w.heap.size w wr ∧ ((i = .int .i64 0 ∧ wr.ownsRow w.heap.size 5 1 v 0 []) ∨ (i = .int .i64 1 ∧ wr.ownsRow w.heap.size 5 1 v n0 (xs.map (.int .u8))) ∨ (i = .int .i64 2 ∧ wr.ownsRow w.heap.size 5 1 v S ((xs ++ ys).map (.int .u8))))) (fun _ i _ => 2 - (intOf i).toNat)
      case atStart => exact ⟨hb1, .inl ⟨rfl, hown1⟩⟩
      case round =>
        clear hown1 hb1
        obtain ⟨hbl, hrel⟩ := hrel
        have hd0 := (hbl.cell (p := ⟨g, 0, none⟩) hgl).trans hc0
        have hd1 := (hbl.cell (p := ⟨g, 1, none⟩) hgl).trans hc1
        have hs0 := hr0.below (Nat.le_refl _) hbl
        have hs1 := hr1.below (Nat.le_refl _) hbl
        have hsz := hbl.size
        rcases hrel with ⟨rfl, hown⟩ | ⟨rfl, hown⟩ | ⟨rfl, hown⟩
        · go_wp2_with (at_builtin; refine append_reads rfl _ _ rfl w.heap.size _ 0 [] rfl hown a0 n0 c0 xs rfl H0.out hs0 hz0 (by omega) hsz ?_; intro v' w2 hown2 hb2)
          rw [Nat.zero_add, List.nil_append] at hown2
          go_wp2
          go_roundw
          case rel => exact ⟨hbl.trans hb2, .inr (.inl ⟨rfl, hown2⟩)⟩
          case measure => simp [intOf]
        · go_wp2_with (at_builtin; refine append_reads rfl _ _ rfl w.heap.size _ n0 _ rfl hown a1 n1 c1 ys rfl H1.out hs1 hz1 (by omega) hsz ?_; intro v' w2 hown2 hb2)
          rw [← List.map_append, ← HS.out] at hown2
          go_wp2
          go_roundw
          case rel => exact ⟨hbl.trans hb2, .inr (.inr ⟨rfl, hown2⟩)⟩
          case measure => simp [intOf]
        · go_wp2
          go_ret
          exact ⟨_, rfl, hown, hbl⟩

set_option maxRecDepth 100000 in
set_option maxHeartbeats 1000000 in
theorem with_any (ao : Option Addr) (cap n : Nat) (xs : List Int) (w : World) (hn : xs.length = n) (hl : n ≤ 100000 - 2) (hx : ∀ x ∈ xs, 0 ≤ x ∧ x ≤ 255) (hnil : ao = none → cap = 0) (h : Reads w ao (xs.map (.int .u8))) :
    Calls Try.prog 31 #[.slice ao n cap] w fun e w' => ∃ v, e = .returned v ∧ w'.ownsRow w.heap.size 5 1 v (n + 2) ((xs ++ chk xs).map (.int .u8)) ∧ Below w.heap.size w w' := by
  go_enter Try.func31, Try.ntmps31
  go_wp2_with fail
  refine (check_any _ _ _ _ _ hn (by omega) hx h).mono ?_
  rintro e w1 ⟨v, rfl, hown, hb1⟩
  obtain ⟨vo, ca, rfl, hca, hr, hvn⟩ := owns_form hown
  have h1 := h.below (Nat.le_refl _) hb1
  have hB1 : Below w1.heap.size w1 (w1.alloc (.cells #[.slice ao n cap, .slice vo 2 ca] 22)) := (Below.refl _ _).alloc (Nat.le_refl _) _
  have hBB := hb1.trans (hB1.mono hb1.size)
  go_wp2_with fail
  refine (concat_two w1.heap.size ao vo n 2 cap ca xs (chk xs) _ (by simp) (by simp) (by omega) hn rfl (by omega) (by omega) (h1.below (Nat.le_refl _) hB1) (hr.below (Nat.le_refl _) hB1) hnil (by rintro rfl; rcases hvn with ⟨_, h, _⟩ | ⟨g, hg⟩ <;> simp_all)).mono ?_
  rintro e w2 ⟨v, rfl, hown2, hb2⟩
  go_wp2
  go_ret
  exact ⟨_, rfl, owns_lower hown2 hBB.size, hBB.trans (hb2.mono hBB.size)⟩
end Go.Proofs.Ytfjfnfofbhikdaa.Tape
