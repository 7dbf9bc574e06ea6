/- Plain facts on the check: the register, step by step; the check of bits; bursts. No walk here. -/
import Derived.Test.YtfjfnfofbhikdaaJoin
namespace Go.Proofs.Ytfjfnfofbhikdaa.Tape

/-- The register with one bit more. -/
def stp (r : BitVec 16) (on : Bool) : BitVec 16 := (r >>> 1) ^^^ (if (r.getLsbD 0 ^^ on) then 0x8408#16 else 0#16)
def crc (r : BitVec 16) (bs : List Bool) : BitVec 16 := bs.foldl stp r
theorem crc_nil (r : BitVec 16) : crc r [] = r := rfl
theorem crc_cons (r : BitVec 16) (b : Bool) (bs : List Bool) : crc r (b :: bs) = crc (stp r b) bs := rfl
theorem crc_append (r : BitVec 16) (a b : List Bool) : crc r (a ++ b) = crc (crc r a) b := by simp [crc]
theorem crc_take (r : BitVec 16) (bs : List Bool) (k : Nat) (h : k < bs.length) : crc r (bs.take (k + 1)) = stp (crc r (bs.take k)) bs[k] := by
  rw [List.take_succ_eq_append_getElem h, crc_append]; rfl

theorem stp_xor (r s : BitVec 16) (a b : Bool) : stp (r ^^^ s) (a ^^ b) = stp r a ^^^ stp s b := by
  unfold stp
  apply BitVec.eq_of_getLsbD_eq
  intro i hi
  simp only [BitVec.getLsbD_xor, BitVec.getLsbD_ushiftRight]
  cases r.getLsbD 0 <;> cases s.getLsbD 0 <;> cases a <;> cases b <;> simp <;> cases r.getLsbD (1 + i) <;> cases s.getLsbD (1 + i) <;> simp

theorem crc_xor : ∀ (a b : List Bool) (r s : BitVec 16), a.length = b.length → crc (r ^^^ s) (List.zipWith (· ^^ ·) a b) = crc r a ^^^ crc s b
  | [], [], r, s, _ => rfl
  | x :: a, y :: b, r, s, h => by
    rw [List.zipWith_cons_cons, crc_cons, crc_cons, crc_cons, stp_xor, crc_xor a b _ _ (by simpa using h)]
  | [], _ :: _, _, _, h => by simp at h
  | _ :: _, [], _, _, h => by simp at h

theorem stp_zero (x : BitVec 16) (h : stp x false = 0#16) : x = 0#16 := by
  unfold stp at h
  have h15 : (0x8408#16).getLsbD 15 = true := by decide
  cases hl : x.getLsbD 0
  · simp only [hl, Bool.xor_false, Bool.false_eq_true, if_false, BitVec.xor_zero] at h
    apply BitVec.eq_of_getLsbD_eq
    intro i hi
    rcases Nat.eq_zero_or_pos i with rfl | h0
    · simpa using hl
    · have := congrArg (fun v => v.getLsbD (i - 1)) h
      simp only [BitVec.getLsbD_ushiftRight, show 1 + (i - 1) = i from by omega] at this
      simpa using this
  · simp only [hl, Bool.xor_false, if_true] at h
    have := congrArg (fun v => v.getLsbD 15) h
    simp only [BitVec.getLsbD_xor, BitVec.getLsbD_ushiftRight, h15, Bool.xor_true] at this
    rw [BitVec.getLsbD_of_ge x (1 + 15) (by omega)] at this
    simp at this

def noughts (k : Nat) : List Bool := List.replicate k false

theorem crc_noughts_zero : ∀ k, crc 0#16 (noughts k) = 0#16
  | 0 => rfl
  | k + 1 => by
    rw [noughts, List.replicate_succ, crc_cons, show stp 0#16 false = 0#16 from by decide]
    exact crc_noughts_zero k

theorem crc_noughts_inj : ∀ (k : Nat) (x : BitVec 16), crc x (noughts k) = 0#16 → x = 0#16
  | 0, _, h => h
  | k + 1, x, h => by
    rw [noughts, List.replicate_succ, crc_cons] at h
    exact stp_zero x (crc_noughts_inj k _ h)

/-- The first k bits of v. -/
def bitsK (v : BitVec 16) (k : Nat) : List Bool := (List.range k).map v.getLsbD
theorem bitsK_len (v : BitVec 16) (k : Nat) : (bitsK v k).length = k := by simp [bitsK]
theorem bitsK_succ (v : BitVec 16) (k : Nat) : bitsK v (k + 1) = bitsK v k ++ [v.getLsbD k] := by simp [bitsK, List.range_succ]

theorem crc_self (v : BitVec 16) : ∀ k, crc v (bitsK v k) = v >>> k
  | 0 => by simp [bitsK, crc]
  | k + 1 => by
    rw [bitsK_succ, crc_append, crc_self v k, crc_cons, crc_nil, stp]
    have h : (v >>> k).getLsbD 0 = v.getLsbD k := by simp
    rw [h]
    simp [BitVec.shiftRight_add]

theorem zip_noughts (a : List Bool) : List.zipWith (· ^^ ·) a (noughts a.length) = a := by
  induction a with
  | nil => rfl
  | cons x a ih =>
    rw [List.length_cons, noughts, List.replicate_succ, List.zipWith_cons_cons]
    rw [noughts] at ih
    rw [ih]; simp

/-- The register behind the bits of v, where it was r. -/
theorem crc_bitsK (r v : BitVec 16) (k : Nat) : crc r (bitsK v k) = (v >>> k) ^^^ crc (v ^^^ r) (noughts k) := by
  have h := crc_xor (bitsK v k) (noughts k) v (v ^^^ r) (by simp [bitsK, noughts])
  have e : List.zipWith (· ^^ ·) (bitsK v k) (noughts k) = bitsK v k := by
    have := zip_noughts (bitsK v k)
    rwa [bitsK_len] at this
  rw [e, crc_self] at h
  rw [← h, ← BitVec.xor_assoc, BitVec.xor_self, BitVec.zero_xor]

def good : BitVec 16 := 0xf0b8#16
theorem good_eq : crc 0xffff#16 (noughts 16) = good := by decide

theorem shift16 (v : BitVec 16) : v >>> 16 = 0#16 := by
  apply BitVec.eq_of_getLsbD_eq
  intro i hi
  rw [BitVec.getLsbD_ushiftRight, BitVec.getLsbD_of_ge v _ (by omega)]; simp

theorem crc_sub (a b : BitVec 16) (k : Nat) : crc (a ^^^ b) (noughts k) = crc a (noughts k) ^^^ crc b (noughts k) := by
  have h := crc_xor (noughts k) (noughts k) a b rfl
  have e : List.zipWith (· ^^ ·) (noughts k) (noughts k) = noughts k := by
    have := zip_noughts (noughts k)
    rwa [show (noughts k).length = k from by simp [noughts]] at this
  rwa [e] at h

theorem xor_eq_zero (a b : BitVec 16) (h : a ^^^ b = 0#16) : a = b := by
  have : a ^^^ b ^^^ b = 0#16 ^^^ b := by rw [h]
  rwa [BitVec.xor_assoc, BitVec.xor_self, BitVec.xor_zero, BitVec.zero_xor] at this

theorem not_eq (v : BitVec 16) : ~~~v = v ^^^ 0xffff#16 := by
  apply BitVec.eq_of_getLsbD_eq
  intro i hi
  have : (0xffff#16).getLsbD i = true := by
    have : ∀ j : Fin 16, (0xffff#16).getLsbD j.val = true := by decide
    exact this ⟨i, hi⟩
  rw [BitVec.getLsbD_not, BitVec.getLsbD_xor, this]
  simp [hi]

/-- Right: the two octets behind are the check. -/
theorem judge (r v : BitVec 16) : crc r (bitsK v 16) = good ↔ v = ~~~r := by
  rw [crc_bitsK, shift16, BitVec.zero_xor, ← good_eq]
  constructor
  · intro h
    have h1 : crc ((v ^^^ r) ^^^ 0xffff#16) (noughts 16) = 0#16 := by rw [crc_sub, h, BitVec.xor_self]
    have h2 := crc_noughts_inj _ _ h1
    have h3 := xor_eq_zero _ _ (by rw [BitVec.xor_assoc] at h2; exact h2)
    rw [h3, not_eq]
  · intro h
    rw [h, not_eq, BitVec.xor_assoc, BitVec.xor_comm 0xffff#16 r, ← BitVec.xor_assoc, BitVec.xor_self, BitVec.zero_xor]

theorem crc_zero_bitsK (v : BitVec 16) (k : Nat) (hk : v >>> k = 0#16) (h : v ≠ 0#16) : crc 0#16 (bitsK v k) ≠ 0#16 := by
  rw [crc_bitsK, hk, BitVec.zero_xor, BitVec.xor_zero]
  exact fun e => h (crc_noughts_inj _ _ e)

/-! ### Bursts -/
/-- The mask of a burst: T's bits from place k on. -/
def mask (k : Nat) (T : BitVec 16) : List Bool := noughts k ++ bitsK T 16
theorem mask_len (k : Nat) (T : BitVec 16) : (mask k T).length = k + 16 := by simp [mask, noughts, bitsK]
theorem mask_get (k : Nat) (T : BitVec 16) (j : Nat) : (mask k T).getD j false = (decide (k ≤ j) && T.getLsbD (j - k)) := by
  rw [mask, List.getD_eq_getElem?_getD]
  rcases Nat.lt_or_ge j k with h | h
  · rw [List.getElem?_append_left (by simpa [noughts] using h)]
    simp [noughts, h, show ¬ k ≤ j from by omega]
  · rw [List.getElem?_append_right (by simpa [noughts] using h)]
    rcases Nat.lt_or_ge (j - k) 16 with h' | h'
    · simp [noughts, bitsK, h, h']
    · rw [BitVec.getLsbD_of_ge T _ h']
      simp [noughts, bitsK, h']

theorem crc_turn (r : BitVec 16) (bs ms : List Bool) : crc r (turn bs ms) = crc r bs ^^^ crc 0#16 ((List.range bs.length).map fun j => ms.getD j false) := by
  have h := crc_xor bs ((List.range bs.length).map fun j => ms.getD j false) r 0#16 (by simp)
  rw [BitVec.xor_zero] at h
  rw [← h]
  congr 1
  apply List.ext_getElem
  · simp [turn]
  · intro i h1 h2
    have hi : i < bs.length := by simpa [turn_len] using h1
    rw [turn_get _ _ _ hi]
    simp [List.getD, hi]

/-- What a burst leaves is never nought. -/
theorem burst (n k : Nat) (T : BitVec 16) (hk : k < n) (i : Nat) (hi : i < 16) (hin : k + i < n) (hT : T.getLsbD i = true) :
    crc 0#16 ((List.range n).map fun j => (mask k T).getD j false) ≠ 0#16 := by
  obtain ⟨m, hm⟩ : ∃ m, m = min 16 (n - k) := ⟨_, rfl⟩
  obtain ⟨V, hV⟩ : ∃ V : BitVec 16, V = (T.setWidth m).setWidth 16 := ⟨_, rfl⟩
  have hVb : ∀ j, V.getLsbD j = (decide (j < m) && T.getLsbD j) := by
    intro j
    rw [hV]
    simp only [BitVec.getLsbD_setWidth]
    rcases Nat.lt_or_ge j 16 with h | h
    · simp [h]
    · simp [show ¬ j < 16 from by omega, BitVec.getLsbD_of_ge T j h]
  have e : ((List.range n).map fun j => (mask k T).getD j false) = noughts k ++ (bitsK V m ++ noughts (n - k - m)) := by
    apply List.ext_getElem
    · simp [noughts, bitsK]; omega
    · intro j h1 h2
      have hj : j < n := by simpa using h1
      simp only [List.getElem_map, List.getElem_range, mask_get]
      rcases Nat.lt_or_ge j k with h | h
      · rw [List.getElem_append_left (by simpa [noughts] using h)]
        simp [noughts, show ¬ k ≤ j from by omega]
      · rw [List.getElem_append_right (by simpa [noughts] using h)]
        simp only [noughts, List.length_replicate]
        rcases Nat.lt_or_ge (j - k) m with h' | h'
        · rw [List.getElem_append_left (by simpa [bitsK] using h')]
          simp [bitsK, hVb, h, h']
        · rw [List.getElem_append_right (by simpa [bitsK] using h')]
          have : 16 ≤ j - k := by omega
          simp [BitVec.getLsbD_of_ge T _ this]
  rw [e, crc_append, crc_noughts_zero, crc_append]
  intro h0
  have h1 := crc_noughts_inj _ _ h0
  refine crc_zero_bitsK V m ?_ ?_ h1
  · apply BitVec.eq_of_getLsbD_eq
    intro j hj
    rw [BitVec.getLsbD_ushiftRight, hVb]
    simp [show ¬ m + j < m from by omega]
  · intro hz
    have := hVb i
    rw [hz, hT] at this
    simp at this
    omega

/-- No bit turned: the same. -/
theorem no_burst (bs : List Bool) (k : Nat) (T : BitVec 16) (h : ∀ i, i < 16 → k + i < bs.length → T.getLsbD i = false) : turn bs (mask k T) = bs := by
  apply List.ext_getElem
  · simp [turn]
  · intro j h1 h2
    rw [turn_get _ _ _ h2, mask_get]
    have : (decide (k ≤ j) && T.getLsbD (j - k)) = false := by
      rcases Nat.lt_or_ge j k with h' | h'
      · simp [show ¬ k ≤ j from by omega]
      · rcases Nat.lt_or_ge (j - k) 16 with h'' | h''
        · simp [h' , h (j - k) h'' (by omega)]
        · simp [BitVec.getLsbD_of_ge T _ h'']
    rw [this]
    simp [List.getD, h2]

/-! ### The check of octets -/
theorem bits_append (xs ys : List Int) : bits (xs ++ ys) = bits xs ++ bits ys := by
  apply List.ext_getElem
  · simp [bits_len]; omega
  · intro i h1 h2
    have h3 : i < 8 * (xs ++ ys).length := by simpa [bits_len] using h1
    rw [bits_get _ _ h3]
    rcases Nat.lt_or_ge i (8 * xs.length) with h | h
    · rw [List.getElem_append_left (by rw [bits_len]; exact h), bits_get _ _ h]
      congr 1
      rw [List.getD_eq_getElem?_getD, List.getElem?_append_left (by omega), ← List.getD_eq_getElem?_getD]
    · have h4 : i - 8 * xs.length < 8 * ys.length := by simp at h3; omega
      rw [List.getElem_append_right (by rw [bits_len]; exact h)]
      simp only [bits_len]
      rw [bits_get _ _ h4]
      rw [List.getD_eq_getElem?_getD, List.getElem?_append_right (by omega), ← List.getD_eq_getElem?_getD]
      rw [show (i - 8 * xs.length) / 8 = i / 8 - xs.length from by omega, show (i - 8 * xs.length) % 8 = i % 8 from by omega]

theorem bit_nat (n i : Nat) : bitAt (n : Int) i = n.testBit i := by
  rw [bitAt, Nat.testBit_eq_decide_div_mod_eq]
  congr 1
  have : ((n : Int) / 2 ^ i % 2) = ((n / 2 ^ i % 2 : Nat) : Int) := by simp
  rw [this]
  apply propext
  omega

/-- The two octets of v, the lower one first. -/
def two (v : BitVec 16) : List Int := [(v.toNat : Int) % 256, (v.toNat : Int) / 256]
theorem two_len (v : BitVec 16) : (two v).length = 2 := rfl
theorem two_range (v : BitVec 16) : ∀ x ∈ two v, 0 ≤ x ∧ x ≤ 255 := by
  have := v.isLt
  intro x hx
  simp only [two, List.mem_cons, List.not_mem_nil, or_false] at hx
  rcases hx with rfl | rfl <;> omega
theorem bits_two (v : BitVec 16) : bits (two v) = bitsK v 16 := by
  have hlt := v.isLt
  apply List.ext_getElem
  · simp [bits_len, two, bitsK]
  · intro i h1 h2
    have hi : i < 16 := by simpa [bitsK] using h2
    rw [bits_get _ _ (by simpa [two] using hi)]
    simp only [bitsK, List.getElem_map, List.getElem_range]
    rw [BitVec.getLsbD]
    rcases Nat.lt_or_ge i 8 with h | h
    · rw [show i / 8 = 0 from by omega, show i % 8 = i from by omega]
      show bitAt ((v.toNat : Int) % 256) i = _
      rw [show ((v.toNat : Int) % 256) = ((v.toNat % 2 ^ 8 : Nat) : Int) from by simp, bit_nat, Nat.testBit_mod_two_pow]
      simp [h]
    · rw [show i / 8 = 1 from by omega]
      show bitAt ((v.toNat : Int) / 256) (i % 8) = _
      rw [show ((v.toNat : Int) / 256) = ((v.toNat / 2 ^ 8 : Nat) : Int) from by simp, bit_nat, Nat.testBit_div_two_pow]
      rw [show i % 8 + 8 = i from by omega]

def left (xs : List Int) : BitVec 16 := crc 0xffff#16 (bits xs)
def chk (xs : List Int) : List Int := two (~~~ left xs)
theorem left_append (xs ys : List Int) : left (xs ++ ys) = crc (left xs) (bits ys) := by rw [left, bits_append, crc_append]; rfl
theorem left_two (xs : List Int) (v : BitVec 16) : left (xs ++ two v) = good ↔ v = ~~~ left xs := by rw [left_append, bits_two, judge]
theorem left_whole (xs : List Int) : left (xs ++ chk xs) = good := (left_two xs _).2 rfl

theorem two_inj {v u : BitVec 16} (h : two v = two u) : v = u := by
  simp only [two, List.cons.injEq, and_true] at h
  apply BitVec.eq_of_toNat_eq
  omega

/-- Any two octets are those of a number. -/
theorem two_of (x y : Int) (hx : 0 ≤ x ∧ x ≤ 255) (hy : 0 ≤ y ∧ y ≤ 255) : ∃ v : BitVec 16, two v = [x, y] := by
  refine ⟨BitVec.ofNat 16 (x + 256 * y).toNat, ?_⟩
  have : (BitVec.ofNat 16 (x + 256 * y).toNat).toNat = (x + 256 * y).toNat := by
    rw [BitVec.toNat_ofNat, Nat.mod_eq_of_lt (by omega)]
  simp only [two, this]
  congr 1
  · omega
  · congr 1; omega

/-- Right, by the register and by the check. -/
theorem right_iff (xs ys : List Int) (hl : ys.length = 2) (hy : ∀ y ∈ ys, 0 ≤ y ∧ y ≤ 255) : left (xs ++ ys) = good ↔ chk xs = ys := by
  match ys, hl with
  | [a, b], _ =>
    obtain ⟨v, hv⟩ := two_of a b (hy a (by simp)) (hy b (by simp))
    rw [← hv, left_two, chk]
    constructor
    · intro h; rw [h]
    · intro h; exact (two_inj h).symm

/-! ### Octets of bits, and back -/
theorem low8_bits : ∀ b0 b1 b2 b3 b4 b5 b6 b7 : Bool, ∀ j : Fin 8, bitAt (low [b0, b1, b2, b3, b4, b5, b6, b7] 8) j.val = [b0, b1, b2, b3, b4, b5, b6, b7].getD j.val false := by decide +kernel
theorem low_bit (bs : List Bool) (j : Nat) (hj : j < 8) : bitAt (low bs 8) j = bs.getD j false := by
  have h := low8_bits (bs.getD 0 false) (bs.getD 1 false) (bs.getD 2 false) (bs.getD 3 false) (bs.getD 4 false) (bs.getD 5 false) (bs.getD 6 false) (bs.getD 7 false) ⟨j, hj⟩
  have e : low bs 8 = low [bs.getD 0 false, bs.getD 1 false, bs.getD 2 false, bs.getD 3 false, bs.getD 4 false, bs.getD 5 false, bs.getD 6 false, bs.getD 7 false] 8 := rfl
  rw [e, h]
  match j, hj with
  | 0, _ | 1, _ | 2, _ | 3, _ | 4, _ | 5, _ | 6, _ | 7, _ => rfl

theorem bits_octs (bs : List Bool) (n : Nat) (h : bs.length = 8 * n) : bits (octsTo bs n) = bs := by
  apply List.ext_getElem
  · rw [bits_len, octsTo_len, h]
  · intro i h1 h2
    rw [bits_get _ _ (by rw [octsTo_len]; omega)]
    have hi : i / 8 < n := by omega
    have e : (octsTo bs n).getD (i / 8) 0 = low (bs.drop (8 * (i / 8))) 8 := by simp [octsTo, List.getD, hi]
    rw [e, low_bit _ _ (by omega)]
    have : 8 * (i / 8) + i % 8 = i := by omega
    simp [List.getD, this, h2]

theorem octs_range (bs : List Bool) (n : Nat) : ∀ x ∈ octsTo bs n, 0 ≤ x ∧ x ≤ 255 := by
  intro x hx
  simp only [octsTo, List.mem_map] at hx
  obtain ⟨i, _, rfl⟩ := hx
  have := low_nonneg (bs.drop (8 * i)) 8
  omega

theorem octs_two (v : BitVec 16) : octsTo (bitsK v 16) 2 = two v := by
  rw [← bits_two]
  exact octs_bits (two v) (two_range v)

/-! ### The reference's register: the other way round -/
theorem rev_stp (x : BitVec 16) (on : Bool) : (stp x on).reverse = (x.reverse <<< 1) ^^^ (if (x.getLsbD 0 ^^ on) then 4129#16 else 0#16) := by
  apply BitVec.eq_of_getLsbD_eq
  intro i hi
  have e : ∀ j : Fin 16, (0x8408#16).getMsbD j.val = (4129#16).getLsbD j.val := by decide
  have e' := e ⟨i, hi⟩
  rw [BitVec.getLsbD_reverse, stp, BitVec.getMsbD_xor, BitVec.getLsbD_xor]
  congr 1
  · rw [BitVec.getMsbD_ushiftRight, BitVec.getLsbD_shiftLeft, BitVec.getLsbD_reverse]
    simp [hi]
  · split
    · exact e'
    · simp

theorem top_bit (x : BitVec 16) : (x.reverse.toNat / 32768 % 2 = 1) ↔ x.getLsbD 0 = true := by
  have h : x.reverse.getLsbD 15 = x.getLsbD 0 := by
    rw [BitVec.getLsbD_reverse, BitVec.getMsbD]; simp
  rw [← h, BitVec.getLsbD, Nat.testBit_eq_decide_div_mod_eq]
  simp

theorem rev_nat (x : BitVec 16) (on : Bool) : (stp x on).reverse.toNat = if (x.getLsbD 0 ^^ on) then (x.reverse.toNat * 2 % 65536) ^^^ 4129 else x.reverse.toNat * 2 % 65536 := by
  rw [rev_stp, BitVec.toNat_xor, BitVec.toNat_shiftLeft, Nat.shiftLeft_eq]
  split <;> simp

theorem out_bit (x : BitVec 16) (i : Nat) (hi : i < 16) : ((65535 - x.reverse.toNat) / 2 ^ (15 - i) % 2 = 1) ↔ (~~~x).getLsbD i = true := by
  have h : (~~~ x.reverse).toNat = 65535 - x.reverse.toNat := by rw [BitVec.toNat_not]
  rw [← h]
  have e : ((~~~ x.reverse).toNat / 2 ^ (15 - i) % 2 = 1) ↔ (~~~ x.reverse).getLsbD (15 - i) = true := by
    rw [BitVec.getLsbD, Nat.testBit_eq_decide_div_mod_eq]; simp
  rw [e]
  rw [BitVec.getLsbD_not, BitVec.getLsbD_not, BitVec.getLsbD_reverse, BitVec.getMsbD]
  simp [hi, show 15 - i < 16 from by omega, show 15 - (15 - i) = i from by omega]
end Go.Proofs.Ytfjfnfofbhikdaa.Tape
