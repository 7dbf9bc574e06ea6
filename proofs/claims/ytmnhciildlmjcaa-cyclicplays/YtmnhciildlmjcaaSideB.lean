/- The contracts of the reference's Size and Put; the messages in memory of their own. -/
import Derived.Test.YtmnhciildlmjcaaSide1
import Derived.Test.YtmnhciildlmjcaaCyc8
import Derived.Test.YtmnhciildlmjcaaHold9
namespace Go.Proofs.Ytmnhciildlmjcaa.Tape
open Go.ChangeShapes Go.WideShapes Go.ChangeAt Go.RowKit
set_option linter.unusedVariables false

theorem HMsg.form2 {w : World} {C : Nat} {u : Value} {x : List Int} (h : HMsg w C u x) : ∃ ao cap, u = .slice ao x.length cap := by
  obtain ⟨m, cap, cur, e, -⟩ := h.form
  exact ⟨_, cap, e⟩
theorem sz_le {M : Value → List Int → Prop} (hM : ∀ u x, M u x → x.length ≤ 273) : ∀ {us : List Value} {xs : List (List Int)}, Each M us xs → sz xs ≤ 273 * xs.length
  | [], [], _ => by simp [sz]
  | u :: us, x :: xs, h => by
    have := sz_le hM h.2
    have := hM _ _ h.1
    simp only [sz, List.length_cons]
    omega
  | [], _ :: _, h => by cases h
  | _ :: _, [], h => by cases h

set_option maxRecDepth 100000 in
set_option maxHeartbeats 1000000 in
theorem rsize_any (lo : Option Addr) (n cap C : Nat) (us : List Value) (ms : List (List Int)) (w : World) (hr : RowAt w (.slice lo n cap) us) (he : Each (HMsg w C) us ms) (hn : n ≤ 1000000) :
    Calls Try.prog 29 #[.slice lo n cap] w fun e w' => e = .returned (.int .i64 (sz ms)) ∧ w' = w := by
  obtain ⟨hnu, -, -, hrd⟩ := hr.cell
  have hlen := he.len
  have HNU : Hid (n = us.length ∧ us.length = ms.length) := ⟨hnu, hlen⟩
  have HE : Hid (Each (HMsg w C) us ms) := he
  clear hnu hlen hr he
  go_enter Try.func29, Try.ntmps29
  go_wp2
  go_loop [3, 4] (fun t i => ∃ k : Nat, k ≤ n ∧ i = .int .i64 k ∧ t = .int .i64 (sz (ms.take k))) (fun _ i => n - (intOf i).toNat)
  case atStart => exact ⟨0, by omega, rfl, rfl⟩
  case round =>
    obtain ⟨k, hk, rfl, rfl⟩ := hrel
    by_cases hlt : k < n
    · have hku : k < us.length := by have := HNU.out; omega
      have hkm : k < ms.length := by have := HNU.out; omega
      have hm := HE.out.get k hku hkm
      obtain ⟨ao, mc, hu⟩ := hm.form2
      obtain ⟨g, off, rfl, hc⟩ := hrd k _ (List.getElem?_eq_getElem hku)
      rw [hu] at hc
      have htk : sz (ms.take (k + 1)) = sz (ms.take k) + ms[k].length := by rw [List.take_succ_eq_append_getElem hkm, sz_append]; simp [sz]
      have hle := sz_le (M := HMsg w C) (fun u x hm => hm.2.2.1) (HE.out.take k)
      have hle2 : (ms.take k).length ≤ 1000000 := by rw [List.length_take]; omega
      have hx : ms[k].length ≤ 273 := hm.2.2.1
      generalize ms[k] = x at *
      generalize x.length = L at *
      obtain ⟨S, hS⟩ : ∃ S, sz (ms.take k) = S := ⟨_, rfl⟩
      rw [hS] at htk hle ⊢
      have hS2 : S ≤ 273000000 := by omega
      have HTK : Hid (sz (ms.take (k + 1)) = S + L) := htk
      clear htk hle hle2 hS hm hu
      go_wp2
      go_round
      case rel => exact ⟨k + 1, by omega, by go_num, by rw [HTK.out]; go_num⟩
      case measure => simp [intOf]; omega
    · obtain rfl : k = n := by omega
      have hall : ms.take k = ms := List.take_of_length_le (by have := HNU.out; omega)
      rw [hall]
      clear hall
      go_wp2
      go_ret
      exact ⟨rfl, rfl⟩

attribute [local go_sem ↓] ldS_def stS_def

set_option maxRecDepth 100000 in
set_option maxHeartbeats 1000000 in
theorem rput_bad (lo ao : Option Addr) (n cap pn pc : Nat) (a f m o : Int) (t : Tail) (w : World) (hp : pn < 3 ∨ 273 < pn) (hpn : pn ≤ 1000000) :
    Calls Try.prog 9 #[.agg (sideC (.slice lo n cap) a f m o t), .slice ao pn pc] w fun e w' => e = .returned (.tuple #[.agg (sideC (.slice lo n cap) a f m o t), .int .i64 (if pn < 3 then 5 else 6)]) ∧ Below w.heap.size w w' := by
  obtain ⟨W, hW, hB, hb1, hb2, -⟩ := two_sides w (.slice lo n cap) a f m o t
  have hld := (ld_side hb1 rfl).1
  obtain ⟨W2, hst, hres, hB2⟩ := back hb2 rfl (sideC_size (.slice lo n cap) a f m o t) (sideC_one _ _ _ _ _ _ _ _) hB (show w.heap.size ≤ w.heap.size + 1 by omega)
  unfold zeroS at hW
  clear hb1 hb2 hB
  by_cases h3 : pn < 3
  · rw [if_pos h3]
    go_enter Try.func9, Try.ntmps9
    go_upto_region 1 with fail
    rw [← hW]
    clear hW
    go_wp2
    refine bodyPost_ret (v := .tuple #[.agg (sideC (.slice lo n cap) a f m o t), .int .i64 5]) (by simp [results, Try.results9, asAddr, hres]) rfl ?_
    exact ⟨rfl, hB2⟩
  · rw [if_neg h3]
    have h4 : 273 < pn := by omega
    clear hp
    go_enter Try.func9, Try.ntmps9
    go_upto_region 1 with fail
    rw [← hW]
    clear hW
    go_wp2
    refine bodyPost_ret (v := .tuple #[.agg (sideC (.slice lo n cap) a f m o t), .int .i64 6]) (by simp [results, Try.results9, asAddr, hres]) rfl ?_
    exact ⟨rfl, hB2⟩

set_option maxRecDepth 100000 in
set_option maxHeartbeats 1000000 in
theorem rput_full (lo ao : Option Addr) (n cap pn pc C : Nat) (us : List Value) (ms : List (List Int)) (a f m o : Int) (t : Tail) (w : World) (h3 : 3 ≤ pn) (h273 : pn ≤ 273) (hr : RowAt w (.slice lo n cap) us) (he : Each (HMsg w C) us ms) (hC : C ≤ w.heap.size) (hn : n ≤ 1000000)
    (hfull : (n : Int) ≥ m ∨ (sz ms : Int) + pn > o) :
    Calls Try.prog 9 #[.agg (sideC (.slice lo n cap) a f m o t), .slice ao pn pc] w fun e w' => e = .returned (.tuple #[.agg (sideC (.slice lo n cap) a f m o t), .int .i64 3]) ∧ Below w.heap.size w w' := by
  obtain ⟨W, hW, hB, hb1, hb2, -⟩ := two_sides w (.slice lo n cap) a f m o t
  obtain ⟨⟨c0, -, -, c3, c4⟩, -⟩ := side_cells hb1
  have hrW := hr.at_ (fun g hg => hB.block g (hr.lt g hg))
  have heW := he.mono (fun u x hm => hm.below hB)
  have hsz : ∀ q, Calls Try.prog 29 #[.slice lo n cap] (W.drewN q) fun e w' => e = .returned (.int .i64 (sz ms)) ∧ w' = W.drewN q := fun q =>
    rsize_any lo n cap C us ms (W.drewN q) (hrW.at_ fun g hg => rfl) (heW.mono fun u x hm => hm.below (below_drewN (Below.refl _ _) q)) hn
  have hle := sz_le (M := HMsg w C) (fun u x hm => hm.2.2.1) he
  have hnl : n = ms.length := hr.cell.1.trans he.len
  have hS : sz ms ≤ 273000000 := by omega
  generalize sz ms = S at *
  unfold zeroS at hW
  have HK : Hid (W.heap[w.heap.size]? = some (.cells (sideC (.slice lo n cap) a f m o t) 28 (0, 0)) ∧ W.heap[w.heap.size + 1]? = some (.cells zeroS 28 (0, 0)) ∧ Below w.heap.size w W) := ⟨hb1, hb2, hB⟩
  clear hb1 hb2 hB hr he hrW heW hle hnl hC
  by_cases hf : (n : Int) ≥ m
  · clear hfull
    go_enter Try.func9, Try.ntmps9
    go_upto_region 1 with fail
    rw [← hW]
    clear hW
    go_wp2_with fail
    go_quiet ((go_at_call 29; exact Calls.quiet_of_same (hsz _)))
    obtain ⟨W1, hW1⟩ : ∃ W1, W1 = W.drewN nq := ⟨_, rfl⟩
    have hBd : Below W.heap.size W W1 := by rw [hW1]; exact below_drewN (Below.refl _ _) nq
    rw [← hW1]
    have hk1 := (hBd.block _ (heap_lt HK.out.1)).trans HK.out.1
    have hk2 := (hBd.block _ (heap_lt HK.out.2.1)).trans HK.out.2.1
    have hld := (ld_side hk1 rfl).1
    obtain ⟨W2, hst, hres, hB2⟩ := back hk2 rfl (sideC_size (.slice lo n cap) a f m o t) (sideC_one _ _ _ _ _ _ _ _) (HK.out.2.2.trans (below_le hBd HK.out.2.2.size)) (show w.heap.size ≤ w.heap.size + 1 by omega)
    clear hW1 hBd hk1 hk2 c0 c3 c4 hsz
    go_wp2
    refine bodyPost_ret (v := .tuple #[.agg (sideC (.slice lo n cap) a f m o t), .int .i64 3]) (by simp [results, Try.results9, asAddr, hres]) rfl ?_
    exact ⟨rfl, hB2⟩
  · have hf2 : (S : Int) + pn > o := by omega
    have hd : decide ((n : Int) ≥ m) = false := decide_eq_false hf
    clear hfull
    go_enter Try.func9, Try.ntmps9
    go_upto_region 1 with fail
    rw [← hW]
    clear hW
    go_wp2_with fail
    go_quiet ((go_at_call 29; exact Calls.quiet_of_same (hsz _)))
    obtain ⟨W1, hW1⟩ : ∃ W1, W1 = W.drewN nq := ⟨_, rfl⟩
    have hBd : Below W.heap.size W W1 := by rw [hW1]; exact below_drewN (Below.refl _ _) nq
    rw [← hW1]
    have hk1 := (hBd.block _ (heap_lt HK.out.1)).trans HK.out.1
    have hk2 := (hBd.block _ (heap_lt HK.out.2.1)).trans HK.out.2.1
    have hld := (ld_side hk1 rfl).1
    obtain ⟨W2, hst, hres, hB2⟩ := back hk2 rfl (sideC_size (.slice lo n cap) a f m o t) (sideC_one _ _ _ _ _ _ _ _) (HK.out.2.2.trans (below_le hBd HK.out.2.2.size)) (show w.heap.size ≤ w.heap.size + 1 by omega)
    clear hW1 hBd hk1 hk2 c0 c3 c4 hsz
    go_wp2
    refine bodyPost_ret (v := .tuple #[.agg (sideC (.slice lo n cap) a f m o t), .int .i64 3]) (by simp [results, Try.results9, asAddr, hres]) rfl ?_
    exact ⟨rfl, hB2⟩

/-- A Side goes back; nothing else turns. -/
theorem back2 {w0 W : World} {C H : Nat} {zs cs : Array Value} (hb : W.heap[H]? = some (.cells zs 28 (0, 0))) (hz : zs.size = 18) (hc : cs.size = 18) (h1 : cs.all (·.oneCell') = true) (hB : Below C w0 W) (hC : C ≤ H) :
    ∃ W2, (stS (.pointer (some ⟨H, 0, none⟩)) (.agg cs)).run Try.prog W = .ok () W2 ∧ (loadVar 28 ⟨H, 0, none⟩).run Try.prog W2 = .ok (.agg cs) W2 ∧ Below C w0 W2 ∧ W.grownBy W2 (some H) :=
  ⟨_, st_side hb hz hc h1, (ld_side (putS_heap hb (hz.trans hc.symm)) hc).2, putS_below cs hB hC, putS_gb _ _ _⟩

set_option maxRecDepth 100000 in
set_option maxHeartbeats 1000000 in
theorem rput_ok (lo ao : Option Addr) (n cap pn pc C : Nat) (us : List Value) (ms : List (List Int)) (xs : List Int) (a f m o : Int) (t : Tail) (w : World) (h3 : 3 ≤ pn) (h273 : pn ≤ 273) (hr : RowAt w (.slice lo n cap) us) (he : Each (HMsg w C) us ms) (hC : C ≤ w.heap.size) (hn : n ≤ 1000000)
    (hp : HMsg w C (.slice ao pn pc) xs) (hroom : (n : Int) < m) (hoct : (sz ms : Int) + pn ≤ o) :
    Calls Try.prog 9 #[.agg (sideC (.slice lo n cap) a f m o t), .slice ao pn pc] w fun e w' => ∃ lo' n' cap' us', e = .returned (.tuple #[.agg (sideC (.slice lo' n' cap') a f m o t), .int .i64 0]) ∧ RowAt w' (.slice lo' n' cap') us' ∧ Each (HMsg w' C) us' (ms ++ [xs]) ∧ Below w.heap.size w w' ∧ (∀ ad, lo' = some ad → w.heap.size ≤ ad.block) := by
  obtain ⟨W, hW, hB, hb1, hb2, hWs⟩ := two_sides w (.slice lo n cap) a f m o t
  obtain ⟨⟨c0, -, -, c3, c4⟩, -⟩ := side_cells hb1
  have hrW := hr.at_ (fun g hg => hB.block g (hr.lt g hg))
  have heW := he.mono (fun u x hm => hm.below hB)
  have hsz : ∀ q, Calls Try.prog 29 #[.slice lo n cap] (W.drewN q) fun e w' => e = .returned (.int .i64 (sz ms)) ∧ w' = W.drewN q := fun q =>
    rsize_any lo n cap C us ms (W.drewN q) (hrW.at_ fun g hg => rfl) (heW.mono fun u x hm => hm.below (below_drewN (Below.refl _ _) q)) hn
  have hle := sz_le (M := HMsg w C) (fun u x hm => hm.2.2.1) he
  have hnl : n = ms.length := hr.cell.1.trans he.len
  have hul : us.length ≤ 2000000 := by rw [← hr.cell.1]; omega
  have hS : sz ms ≤ 273000000 := by omega
  generalize sz ms = S at *
  unfold zeroS at hW
  have HK : Hid (W.heap[w.heap.size]? = some (.cells (sideC (.slice lo n cap) a f m o t) 28 (0, 0)) ∧ W.heap[w.heap.size + 1]? = some (.cells zeroS 28 (0, 0)) ∧ Below w.heap.size w W ∧ W.heap.size = w.heap.size + 2) := ⟨hb1, hb2, hB, hWs⟩
  have HR : Hid (RowAt W (.slice lo n cap) us ∧ Each (HMsg w C) us ms ∧ HMsg w C (.slice ao pn pc) xs ∧ C ≤ w.heap.size) := ⟨hrW, he, hp, hC⟩
  have hd : decide ((n : Int) ≥ m) = false := decide_eq_false (by omega)
  clear hb1 hb2 hB hr he hrW heW hle hnl hC hp hWs
  go_enter Try.func9, Try.ntmps9
  go_upto_region 1 with fail
  rw [← hW]
  clear hW
  go_wp2_with fail
  go_quiet ((go_at_call 29; exact Calls.quiet_of_same (hsz _)))
  obtain ⟨W1, hW1⟩ : ∃ W1, W1 = W.drewN nq := ⟨_, rfl⟩
  have hBd : Below W.heap.size W W1 := by rw [hW1]; exact below_drewN (Below.refl _ _) nq
  rw [← hW1]
  have hr1 : RowAt W1 (.slice lo n cap) us := HR.out.1.at_ (fun g hg => hBd.block g (HR.out.1.lt g hg))
  have hone : ∀ u ∈ us, u.oneCell' = true := HR.out.2.1.one fun u x hm => hm.one
  obtain ⟨v3, w3, hrun, hr3, hg3, hm3⟩ := run_join (RowAt.nil W1) hr1 hone (by omega)
  simp only [List.nil_append] at hr3
  obtain ⟨lo3, n3, cap3, rfl⟩ := hr3.form3
  have c0' : W1.cell? ⟨w.heap.size, 0, none⟩ = some (.slice lo n cap) := by rw [hW1]; exact c0
  have HB1 : Hid (Below W.heap.size W W1) := hBd
  have hrow3 : RowAt (w3.alloc (.cells #[.slice ao pn pc] 30)) (.slice lo3 n3 cap3) us := hr3.at_ (fun g hg => Below.heap_alloc _ _ _ (hr3.lt g hg))
  have hcc3 : (w3.alloc (.cells #[.slice ao pn pc] 30)).cell? ⟨w3.heap.size, 0, none⟩ = some (.slice ao pn pc) := by rw [World.cell?_alloc_new]; rfl
  have hs1 : w.heap.size + 2 ≤ W1.heap.size := by have := hBd.size; have := HK.out.2.2.2; omega
  have HM3 : Hid (∀ g, (Value.slice lo3 n3 cap3).ownBlock = some g → W1.heap.size ≤ g) := fun g hg => by
    rcases hm3 g hg with e | e
    · simp at e
    · exact e
  have hkeep3 : ∀ k, k < W1.heap.size → (w3.alloc (.cells #[.slice ao pn pc] 30)).heap[k]? = W1.heap[k]? := fun k hk => (Below.heap_alloc _ _ _ (Nat.lt_of_lt_of_le hk hg3.size)).trans (hg3.block k hk (by simp))
  have HK5 : Hid (∀ w5 : World, (w3.alloc (.cells #[.slice ao pn pc] 30)).grownBy w5 (Value.slice lo3 n3 cap3).ownBlock → ∀ k, k < W1.heap.size → w5.heap[k]? = W1.heap[k]?) := fun w5 hg5 k hk => (hg5.block k (by simp; have := hg3.size; omega) (fun e => by have := HM3.out k e.symm; omega)).trans (hkeep3 k hk)
  have HS3 : Hid (W1.heap.size ≤ w3.heap.size) := hg3.size
  have HG3 : Hid (w3.os = W1.os ∧ w3.tape = W1.tape ∧ w3.output = W1.output) := ⟨hg3.os, hg3.tape, hg3.output⟩
  clear hW1 hBd c0 c3 c4 hsz hr1 hone hr3 hg3 hm3 hkeep3
  go_wp2_with (first
    | (at_builtin; refine Lib.wpList_append_run _ rfl _ _ 26 26 rfl (.slice none 0 0) (.slice lo n cap) rfl rfl _ w3 hrun ?_)
    | (at_builtin; refine row_push rfl _ _ rfl (.slice lo3 n3 cap3) us rfl hrow3 ⟨w3.heap.size, 0, none⟩ (.slice ao pn pc) 1 rfl hcc3 rfl hul ?_; intro v5 w5 hr5 hg5 hm5; obtain ⟨lo5, n5, cap5, rfl⟩ := hr5.form3; have hk5 := (HK5.out w5 hg5 w.heap.size (by omega)).trans ((HB1.out.block _ (heap_lt HK.out.1)).trans HK.out.1); have hk6 := (HK5.out w5 hg5 (w.heap.size + 1) (by omega)).trans ((HB1.out.block _ (heap_lt HK.out.2.1)).trans HK.out.2.1); have c5 := (side_cells hk5).1.1; have z5 := (side_cells hk5).2 0; have hld5 := (ld_side (side_set0 hk5 (.slice lo5 n5 cap5)) rfl).1; have hk7 := heap_set_ne (k := 0) hk6 w.heap.size (.slice lo5 n5 cap5) (by omega); have HB5 : Hid (Below w.heap.size w w5) := HK.out.2.2.1.trans (below_le HB1.out HK.out.2.2.1.size |>.trans ⟨hg5.os.trans HG3.out.1, hg5.tape.trans HG3.out.2.1, hg5.output.trans HG3.out.2.2, Nat.le_trans HS3.out (Nat.le_trans (by simp) hg5.size), fun k hk => HK5.out w5 hg5 k (by omega)⟩); obtain ⟨W2, hst, hres, hB2, hG2⟩ := back2 hk7 rfl (sideC_size (.slice lo5 n5 cap5) a f m o t) (sideC_one _ _ _ _ _ _ _ _) (below_set 0 (.slice lo5 n5 cap5) HB5.out (Nat.le_refl _)) (show w.heap.size ≤ w.heap.size + 1 by omega); have HG2 : Hid ((w5.setCell ⟨w.heap.size, 0, none⟩ (.slice lo5 n5 cap5)).grownBy W2 (some (w.heap.size + 1)) ∧ RowAt w5 (.slice lo5 n5 cap5) (us ++ [.slice ao pn pc]) ∧ ∀ g, (Value.slice lo5 n5 cap5).ownBlock = some g → W1.heap.size ≤ g) := ⟨hG2, hr5, fun g hg => (hm5 g hg).elim (fun e => HM3.out g e) (fun e => by have := HS3.out; simp at e; omega)⟩; clear hk5 hk6 hk7 hG2 hr5 hg5 hm5))
  refine bodyPost_ret (v := .tuple #[.agg (sideC (.slice lo5 n5 cap5) a f m o t), .int .i64 0]) (by simp [results, Try.results9, asAddr, hres]) rfl ?_
  obtain ⟨hG2, hr5, hm5⟩ := HG2.out
  obtain ⟨-, he, hp, hC⟩ := HR.out
  refine ⟨lo5, n5, cap5, us ++ [.slice ao pn pc], rfl, ?_, ?_, hB2, fun ad e => ?_⟩
  · refine hr5.at_ fun g hg => ?_
    have h1 := hm5 g hg
    rw [hG2.block g (by simpa [World.setCell] using hr5.lt g hg) (fun e => by simp at e; omega), Below.heap_setCell _ _ _ _ (show g ≠ w.heap.size by omega)]
  · exact Each.append (ys := [_]) (zs := [xs]) ⟨hp.below hB2, trivial⟩ (he.mono fun u x hm => hm.below hB2)
  · have := hm5 ad.block (by rw [e]; rfl)
    omega
end Go.Proofs.Ytmnhciildlmjcaa.Tape
