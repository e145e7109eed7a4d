/- What the program's parted and wide.Div answer, at all numbers of their kinds; nothing that was there is changed. -/
import Derived.WalkMore
import Derived.Test.YtcllmobjdnhmlaaWide1
namespace Go.Proofs.Ytcllmobjdnhmlaa
open Go.RowKit
theorem results_blk_tmp {P : Program} {fn : Func} {p u : Tmp} {t : TypeId} (hf : fn.results = #[.cell p t, .tmp u]) {a : Act} {w : World} (b : Nat) (cs : List Value) (v : Value) (d : TypeDesc) (hp : a.tmps.getD p undef = .pointer (some ⟨b, 0, none⟩)) (hv : a.tmps.getD u undef = v) (hb : Blk w b cs t)
    (hu : P.underlying t = some d) (hd : d.isRow = true) (hi : (P.info? t).map (·.size) = some cs.length) : (results fn a.tmps).run P w = .ok (.tuple #[.agg cs.toArray, v]) w := by
  have h := run_loadVar_mid (P := P) w b 0 t cs d (by simpa using hb.range 0 cs.length) hu hd hi
  have hp' : a.tmps[p]?.getD undef = .pointer (some ⟨b, 0, none⟩) := by simpa using hp
  have hv' : a.tmps[u]?.getD undef = v := by simpa using hv
  simp [results, hf, asAddr, hp', h, hv']
theorem results_blk_tmp2 {P : Program} {fn : Func} {p u x : Tmp} {t : TypeId} (hf : fn.results = #[.cell p t, .tmp u, .tmp x]) {a : Act} {w : World} (b : Nat) (cs : List Value) (v y : Value) (d : TypeDesc) (hp : a.tmps.getD p undef = .pointer (some ⟨b, 0, none⟩)) (hv : a.tmps.getD u undef = v) (hx : a.tmps.getD x undef = y) (hb : Blk w b cs t)
    (hu : P.underlying t = some d) (hd : d.isRow = true) (hi : (P.info? t).map (·.size) = some cs.length) : (results fn a.tmps).run P w = .ok (.tuple #[.agg cs.toArray, v, y]) w := by
  have h := run_loadVar_mid (P := P) w b 0 t cs d (by simpa using hb.range 0 cs.length) hu hd hi
  have hp' : a.tmps[p]?.getD undef = .pointer (some ⟨b, 0, none⟩) := by simpa using hp
  have hv' : a.tmps[u]?.getD undef = v := by simpa using hv
  have hx' : a.tmps[x]?.getD undef = y := by simpa using hx
  simp [results, hf, asAddr, hp', h, hv', hx']
set_option maxRecDepth 10000 in
set_option maxHeartbeats 2000000 in
theorem parted_any (A B : Nat) (w : World) (hA : A < 170141183460469231731687303715884105728) (hB0 : 0 < B) (hB : B < 9223372036854775808) :
    Calls Try.prog 51 #[.agg (nl A).toArray, .int .u64 B] w fun e w' => e = .returned (.tuple #[.agg (nl ((A / B : Nat) : Int)).toArray, .int .u64 ((A % B : Nat) : Int)]) ∧ Below w.heap.size w w' := by
  obtain ⟨h, hh⟩ : ∃ h, (A : Int) / 18446744073709551616 = h := ⟨_, rfl⟩
  obtain ⟨l, hl⟩ : ∃ l, (A : Int) % 18446744073709551616 = l := ⟨_, rfl⟩
  rw [nl_eq A h l hh hl]
  have hs : Hid (PR A B 0 h l 0) := pr_start A B hB0 hA h l hh hl
  clear hh hl
  go_enter Try.func51, Try.ntmps51
  go_wp2
  go_step3
  go_wp2
  go_step3
  go_wp2
  go_loopw [6, 7] (fun left i wr => ∃ (k : Nat) (r H L : Int), k ≤ 128 ∧ i = .int .i64 k ∧ left = .int .u64 r ∧ Blk wr w.heap.size [.int .i64 H, .int .u64 L] 47 ∧ Blk wr (w.heap.size + 1) (nl 0) 47 ∧ Below w.heap.size w wr ∧ Hid (PR A B k H L r)) (fun _ i _ => 128 - (intOf i).toNat)
  case atStart =>
    refine ⟨0, 0, h, l, by omega, rfl, rfl, ?_, ?_, ((Below.refl _ _).alloc (Nat.le_refl _) _).alloc (by simp) _, hs⟩
    · have h1 := turn_alloc w [.int .i64 h, .int .u64 l] 47
      exact (turn_alloc _ (nl 0) 47).1.blk h1.2 (by simp)
    · have h1 := turn_alloc (w.alloc (.cells #[.int .i64 h, .int .u64 l] 47)) (nl 0) 47
      have h2 := h1.2
      simp only [World.alloc, Array.size_push] at h2
      exact h2
  case round =>
    obtain ⟨k, r, H, L, hk, rfl, rfl, hb, hb0, hB1, hpr⟩ := hrel
    clear hs
    have hc0 := hb.cell 0 _ rfl
    have hc1 := hb.cell 1 _ rfl
    have hf0 := hb.frozen 0
    have hf1 := hb.frozen 1
    by_cases hlt : (k : Int) < 128
    · obtain ⟨r2, b, r3, H2, c, H3, L2, e1, e2, e3, e4, e5, e6, e7, hp, hn⟩ := pr_step A B k H L r hpr.out (by omega) hB
      by_cases hrb : r3 < (B : Int)
      · have hp := (show Hid _ from hp hrb)
        clear hn hpr
        go_wp2
        go_roundw
        case rel =>
          obtain ⟨ht1, hb1⟩ := turn_setCell wr w.heap.size 0 (.int .i64 H3) _ 47 hb
          obtain ⟨ht2, hb2⟩ := turn_setCell _ w.heap.size 1 (.int .u64 L2) _ 47 hb1
          exact ⟨k + 1, r3, H3, L2, by omega, by go_num, rfl, hb2, ht2.blk (ht1.blk hb0 (by omega)) (by omega), ht2.below (ht1.below hB1 (Nat.le_refl _)) (Nat.le_refl _), hp⟩
        case measure => simp [intOf]; omega
      · obtain ⟨r4, L3, e8, e9, hp⟩ := hn hrb
        replace hp : Hid _ := hp
        clear hn hpr
        go_wp2
        go_roundw
        case rel =>
          obtain ⟨ht1, hb1⟩ := turn_setCell wr w.heap.size 0 (.int .i64 H3) _ 47 hb
          obtain ⟨ht2, hb2⟩ := turn_setCell _ w.heap.size 1 (.int .u64 L2) _ 47 hb1
          obtain ⟨ht3, hb3⟩ := turn_setCell _ w.heap.size 1 (.int .u64 L3) _ 47 hb2
          exact ⟨k + 1, r4, H3, L3, by omega, by go_num, rfl, hb3, ht3.blk (ht2.blk (ht1.blk hb0 (by omega)) (by omega)) (by omega), ht3.below (ht2.below (ht1.below hB1 (Nat.le_refl _)) (Nat.le_refl _)) (Nat.le_refl _), hp⟩
        case measure => simp [intOf]; omega
    · obtain rfl : k = 128 := by omega
      obtain ⟨hr, hH, hL⟩ := pr_end A B H L r hpr.out hA
      replace hr : Hid _ := hr
      have hN : Hid _ := nl_eq ((A / B : Nat) : Int) H L hH hL
      clear hH hL hpr
      have hd0 := hb0.frozen 0
      have hd1 := hb0.frozen 1
      have hg0 := hb0.cell 0 _ rfl
      have hg1 := hb0.cell 1 _ rfl
      go_wp2
      obtain ⟨ht1, hb1⟩ := turn_setCell wr (w.heap.size + 1) 0 (.int .i64 H) _ 47 hb0
      obtain ⟨ht2, hb2⟩ := turn_setCell _ (w.heap.size + 1) 1 (.int .u64 L) _ 47 hb1
      refine bodyPost_ret (results_blk_tmp rfl (w.heap.size + 1) [.int .i64 H, .int .u64 L] (.int .u64 r) _ rfl rfl hb2 Try.underlying47 rfl (szN 0)) rfl ⟨?_, ht2.below (ht1.below hB1 (by omega)) (by omega)⟩
      rw [← hr.out, hN.out]
theorem parted_l (A B : Nat) (Q S : Int) (hQ : Hid (((A / B : Nat) : Int) = Q)) (hS : Hid (((A % B : Nat) : Int) = S)) (w : World) (hA : A < 170141183460469231731687303715884105728) (hB0 : 0 < B) (hB : B < 9223372036854775808) :
    Calls Try.prog 51 #[.agg (nl A).toArray, .int .u64 B] w fun e w' => e = .returned (.tuple #[.agg (nl Q).toArray, .int .u64 S]) ∧ Below w.heap.size w w' := by
  have h := parted_any A B w hA hB0 hB
  rwa [hQ.out, hS.out] at h
theorem below_neg (z : Int) (h : z < 0) (w : World) : Calls Try.prog 46 #[.agg (nl z).toArray] w fun e w' => e = .returned (.bool true) ∧ Below w.heap.size w w' := by
  have := below_any z w
  rwa [decide_eq_true h] at this
theorem below_pos (z : Int) (h : ¬ z < 0) (w : World) : Calls Try.prog 46 #[.agg (nl z).toArray] w fun e w' => e = .returned (.bool false) ∧ Below w.heap.size w w' := by
  have := below_any z w
  rwa [decide_eq_false h] at this
section
variable {P : Program} {ops : Array Oper} {rest : List Oper} {a : Act} {w : World} {Q : Exit → Act → World → Prop} {ty : TypeId} {pos : String} {aft : Array Edge}
theorem at_boxD {x : Operand} (d : Tmp) (t : TypeId) (h : wpList P ops Q (⟨some d, .box t x, ty, pos, aft, none⟩ :: rest) a w) : wpList P ops Q (⟨some d, .box t x, ty, pos, aft, none⟩ :: rest) a w := h
theorem at_allocD (d : Tmp) (t : TypeId) (h : wpList P ops Q (⟨some d, .alloc t, ty, pos, aft, none⟩ :: rest) a w) : wpList P ops Q (⟨some d, .alloc t, ty, pos, aft, none⟩ :: rest) a w := h
theorem at_loadD {x : Operand} (d : Tmp) (t : TypeId) (h : wpList P ops Q (⟨some d, .load t x, ty, pos, aft, none⟩ :: rest) a w) : wpList P ops Q (⟨some d, .load t x, ty, pos, aft, none⟩ :: rest) a w := h
theorem at_storeX {y : Operand} {dst : Option Tmp} (x : Tmp) (t : TypeId) (h : wpList P ops Q (⟨dst, .store t (.tmp x) y, ty, pos, aft, none⟩ :: rest) a w) : wpList P ops Q (⟨dst, .store t (.tmp x) y, ty, pos, aft, none⟩ :: rest) a w := h
end
set_option maxRecDepth 10000 in
set_option maxHeartbeats 2000000 in
theorem div_pos (A B : Nat) (Q S : Int) (hQ : Hid (((A / B : Nat) : Int) = Q)) (hS : Hid (((A % B : Nat) : Int) = S)) (w : World) (hA : A < 170141183460469231731687303715884105728) (hB0 : 0 < B) (hB1 : B < 9223372036854775808) :
    Calls Try.prog 48 #[.agg (nl (A : Int)).toArray, .int .i64 B] w fun e w' => e = .returned (.tuple #[.agg (nl Q).toArray, .int .i64 S, .int .i64 0]) ∧ Below w.heap.size w w' := by
  have hw : IntKind.u64.wrap (B : Int) = B := by rw [IntKind.wrap_u64]; omega
  have hn : ¬ (B : Int) < 1 := by omega
  have hr : IntKind.i64.wrap S = S := by have := Nat.mod_lt A hB0; have := hS.out; rw [IntKind.wrap_i64]; omega
  go_enter Try.func48, Try.ntmps48
  go_wp2_with (first
    | ((with_reducible refine at_boxD 2 47 ?_); refine L_box 47 _ (nl ((A : Int))) rfl ?_; intro w1 t_ b_a; have l_a : w.heap.size ≤ w.heap.size := Nat.le_refl _; have hB : Below w.heap.size w w1 := t_.below (Below.refl _ _) (Nat.le_refl _); clear t_)
    | ((with_reducible refine at_allocD 4 47 ?_); refine L_alloc 47 (nl 0) zeroN ?_; intro w2 t_ b_r; have l_r : w.heap.size ≤ w1.heap.size := hB.size; have o_r := b_a.lt; replace b_a := t_.blk b_a (by omega); replace hB := t_.below hB l_r; clear t_)
    | ((with_reducible refine at_loadD 14 47 ?_); refine L_load_all 47 _ (w.heap.size) (nl ((A : Int))) 47 _ rfl b_a Try.underlying47 rfl (szN 0) ?_))
  refine (below_pos ((A : Int)) (by omega) w2).mono ?_
  rintro e w3 ⟨rfl, t_⟩
  replace b_a := b_a.below t_ b_a.lt
  replace b_r := b_r.below t_ b_r.lt
  replace hB := hB.trans (t_.mono hB.size)
  clear t_
  go_wp2_with (first
    | ((with_reducible refine at_loadD 18 47 ?_); refine L_load_all 47 _ (w.heap.size) (nl ((A : Int))) 47 _ rfl b_a Try.underlying47 rfl (szN 0) ?_))
  refine (parted_l A B Q S hQ hS w3 hA hB0 hB1).mono ?_
  rintro e w4 ⟨rfl, t_⟩
  replace b_a := b_a.below t_ b_a.lt
  replace b_r := b_r.below t_ b_r.lt
  replace hB := hB.trans (t_.mono hB.size)
  clear t_
  go_wp2_with (first
    | ((with_reducible refine at_allocD 7 47 ?_); refine L_alloc 47 (nl 0) zeroN ?_; intro w5 t_ b_p; have l_p : w.heap.size ≤ w4.heap.size := hB.size; have o_p := b_r.lt; replace b_a := t_.blk b_a (by omega); replace b_r := t_.blk b_r (by omega); replace hB := t_.below hB l_p; clear t_)
    | ((with_reducible refine at_storeX 7 47 ?_); refine L_store_all 47 _ _ (w4.heap.size) (nl Q) _ 47 rfl rfl b_p (szN 0) (rfl) (one_nl _) ?_; clear b_p; intro w6 t_ b_p; replace b_a := t_.blk b_a (by omega); replace b_r := t_.blk b_r (by omega); replace hB := t_.below hB l_p; clear t_)
    | ((with_reducible refine at_loadD 24 47 ?_); refine L_load_all 47 _ (w4.heap.size) (nl Q) 47 _ rfl b_p Try.underlying47 rfl (szN 0) ?_)
    | ((with_reducible refine at_storeX 4 47 ?_); refine L_store_all 47 _ _ (w1.heap.size) (nl Q) _ 47 rfl rfl b_r (szN 0) (rfl) (one_nl _) ?_; clear b_r; intro w7 t_ b_r; replace b_a := t_.blk b_a (by omega); replace b_p := t_.blk b_p (by omega); replace hB := t_.below hB l_r; clear t_))
  (try simp only [Exit.inBlock, Exit.then])
  exact bodyPost_ret (results_blk_tmp2 rfl _ (nl Q) (.int .i64 S) (.int .i64 0) _ rfl rfl rfl b_r Try.underlying47 rfl (szN 0)) rfl ⟨rfl, hB⟩

set_option maxRecDepth 10000 in
set_option maxHeartbeats 2000000 in
theorem div_neg (A B : Nat) (Q S R : Int) (hQ : Hid (((A / B : Nat) : Int) = Q)) (hS : Hid (((A % B : Nat) : Int) = S)) (w : World) (hA : A < 170141183460469231731687303715884105728) (hB0 : 0 < B) (hB1 : B < 9223372036854775808) (hR : (B : Int) - 1 - S = R) :
    Calls Try.prog 48 #[.agg (nl (-1 - (A : Int))).toArray, .int .i64 B] w fun e w' => e = .returned (.tuple #[.agg (nl (-1 - Q)).toArray, .int .i64 R, .int .i64 0]) ∧ Below w.heap.size w w' := by
  have hw : IntKind.u64.wrap (B : Int) = B := by rw [IntKind.wrap_u64]; omega
  have hn : ¬ (B : Int) < 1 := by omega
  have hr : IntKind.i64.wrap S = S := by have := Nat.mod_lt A hB0; have := hS.out; rw [IntKind.wrap_i64]; omega
  have hr1 : IntKind.i64.wrap ((B : Int) - 1) = (B : Int) - 1 := by rw [IntKind.wrap_i64]; omega
  have hr2 : IntKind.i64.wrap ((B : Int) - 1 - S) = R := by have := Nat.mod_lt A hB0; have := hS.out; rw [IntKind.wrap_i64]; omega
  have hQ1 : Hid (In128 Q) := by have h1 := Nat.div_le_self A B; have h2 := hQ.out; show In128 _; unfold In128; generalize A / B = q at h1 h2; omega
  clear hR
  go_enter Try.func48, Try.ntmps48
  go_wp2_with (first
    | ((with_reducible refine at_boxD 2 47 ?_); refine L_box 47 _ (nl (-1 - (A : Int))) rfl ?_; intro w1 t_ b_a; have l_a : w.heap.size ≤ w.heap.size := Nat.le_refl _; have hB : Below w.heap.size w w1 := t_.below (Below.refl _ _) (Nat.le_refl _); clear t_)
    | ((with_reducible refine at_allocD 4 47 ?_); refine L_alloc 47 (nl 0) zeroN ?_; intro w2 t_ b_r; have l_r : w.heap.size ≤ w1.heap.size := hB.size; have o_r := b_a.lt; replace b_a := t_.blk b_a (by omega); replace hB := t_.below hB l_r; clear t_)
    | ((with_reducible refine at_loadD 14 47 ?_); refine L_load_all 47 _ (w.heap.size) (nl (-1 - (A : Int))) 47 _ rfl b_a Try.underlying47 rfl (szN 0) ?_))
  refine (below_neg (-1 - (A : Int)) (by omega) w2).mono ?_
  rintro e w3 ⟨rfl, t_⟩
  replace b_a := b_a.below t_ b_a.lt
  replace b_r := b_r.below t_ b_r.lt
  replace hB := hB.trans (t_.mono hB.size)
  clear t_
  go_wp2_with (first
    | ((with_reducible refine at_loadD 28 47 ?_); refine L_load_all 47 _ (w.heap.size) (nl (-1 - (A : Int))) 47 _ rfl b_a Try.underlying47 rfl (szN 0) ?_))
  refine (turned_any (-1 - (A : Int)) w3 (by unfold In128; omega)).mono ?_
  rintro e w4 ⟨rfl, t_⟩
  replace b_a := b_a.below t_ b_a.lt
  replace b_r := b_r.below t_ b_r.lt
  replace hB := hB.trans (t_.mono hB.size)
  clear t_
  rw [show -1 - (-1 - (A : Int)) = (A : Int) by omega]
  go_wp2_with fail
  refine (parted_l A B Q S hQ hS w4 hA hB0 hB1).mono ?_
  rintro e w5 ⟨rfl, t_⟩
  replace b_a := b_a.below t_ b_a.lt
  replace b_r := b_r.below t_ b_r.lt
  replace hB := hB.trans (t_.mono hB.size)
  clear t_
  go_wp2_with (first
    | ((with_reducible refine at_allocD 9 47 ?_); refine L_alloc 47 (nl 0) zeroN ?_; intro w6 t_ b_p; have l_p : w.heap.size ≤ w5.heap.size := hB.size; have o_p := b_r.lt; replace b_a := t_.blk b_a (by omega); replace b_r := t_.blk b_r (by omega); replace hB := t_.below hB l_p; clear t_)
    | ((with_reducible refine at_storeX 9 47 ?_); refine L_store_all 47 _ _ (w5.heap.size) (nl Q) _ 47 rfl rfl b_p (szN 0) (rfl) (one_nl _) ?_; clear b_p; intro w7 t_ b_p; replace b_a := t_.blk b_a (by omega); replace b_r := t_.blk b_r (by omega); replace hB := t_.below hB l_p; clear t_)
    | ((with_reducible refine at_loadD 35 47 ?_); refine L_load_all 47 _ (w5.heap.size) (nl Q) 47 _ rfl b_p Try.underlying47 rfl (szN 0) ?_))
  refine (turned_any Q w7 hQ1.out).mono ?_
  rintro e w8 ⟨rfl, t_⟩
  replace b_a := b_a.below t_ b_a.lt
  replace b_r := b_r.below t_ b_r.lt
  replace b_p := b_p.below t_ b_p.lt
  replace hB := hB.trans (t_.mono hB.size)
  clear t_
  go_wp2_with (first
    | ((with_reducible refine at_storeX 4 47 ?_); refine L_store_all 47 _ _ (w1.heap.size) (nl (-1 - Q)) _ 47 rfl rfl b_r (szN 0) (rfl) (one_nl _) ?_; clear b_r; intro w9 t_ b_r; replace b_a := t_.blk b_a (by omega); replace b_p := t_.blk b_p (by omega); replace hB := t_.below hB l_r; clear t_))
  (try simp only [Exit.inBlock, Exit.then])
  exact bodyPost_ret (results_blk_tmp2 rfl _ (nl (-1 - Q)) (.int .i64 R) (.int .i64 0) _ rfl rfl rfl b_r Try.underlying47 rfl (szN 0)) rfl ⟨rfl, hB⟩
theorem ediv_neg1 (A B : Nat) (hB : 0 < B) : (-1 - (A : Int)) / (B : Int) = -1 - ((A / B : Nat) : Int) ∧ (-1 - (A : Int)) % (B : Int) = (B : Int) - 1 - ((A % B : Nat) : Int) := by
  have h1 := Nat.div_add_mod A B
  have h2 := Nat.mod_lt A hB
  have e : -1 - (A : Int) = (B : Int) - 1 - ((A % B : Nat) : Int) + (B : Int) * (-1 - ((A / B : Nat) : Int)) := by
    have h3 : (A : Int) = (B : Int) * ((A / B : Nat) : Int) + ((A % B : Nat) : Int) := by exact_mod_cast h1.symm
    rw [Int.mul_sub]
    omega
  have hb : (B : Int) ≠ 0 := by omega
  constructor
  · rw [e, Int.add_mul_ediv_left _ _ hb, Int.ediv_eq_zero_of_lt (by omega) (by omega)]; omega
  · rw [e, Int.add_mul_emod_self_left, Int.emod_eq_of_lt (by omega) (by omega)]
theorem div_any (z n : Int) (w : World) (hz : In128 z) (h0 : 1 ≤ n) (h1 : n < 9223372036854775808) (Q R : Int) (hQ : Hid (z / n = Q)) (hR : Hid (z % n = R)) :
    Calls Try.prog 48 #[.agg (nl z).toArray, .int .i64 n] w fun e w' => e = .returned (.tuple #[.agg (nl Q).toArray, .int .i64 R, .int .i64 0]) ∧ Below w.heap.size w w' := by
  unfold In128 at hz
  obtain ⟨B, rfl⟩ := Int.eq_ofNat_of_zero_le (show 0 ≤ n by omega)
  by_cases hz0 : 0 ≤ z
  · obtain ⟨A, rfl⟩ := Int.eq_ofNat_of_zero_le hz0
    exact div_pos A B Q R (by show _ = _; rw [← hQ.out]; rfl) (by show _ = _; rw [← hR.out]; rfl) w (by omega) (by omega) (by omega)
  · obtain ⟨A, hA⟩ := Int.eq_ofNat_of_zero_le (show 0 ≤ -1 - z by omega)
    obtain rfl : z = -1 - (A : Int) := by omega
    obtain ⟨e1, e2⟩ := ediv_neg1 A B (by omega)
    have hq := hQ.out; have hr := hR.out
    rw [e1] at hq; rw [e2] at hr
    subst hq; subst hr
    exact div_neg A B _ _ _ (by show _ = _; rfl) (by show _ = _; rfl) w (by omega) (by omega) (by omega) rfl
set_option maxHeartbeats 400000 in
theorem div_bad (z n : Int) (w : World) (h0 : n < 1) :
    Calls Try.prog 48 #[.agg (nl z).toArray, .int .i64 n] w fun e w' => e = .returned (.tuple #[.agg (nl 0).toArray, .int .i64 0, .int .i64 1]) ∧ Below w.heap.size w w' := by
  go_enter Try.func48, Try.ntmps48
  go_wp2_with (first
    | ((with_reducible refine at_boxD 2 47 ?_); refine L_box 47 _ (nl z) rfl ?_; intro w1 t_ b_a; have l_a : w.heap.size ≤ w.heap.size := Nat.le_refl _; have hB : Below w.heap.size w w1 := t_.below (Below.refl _ _) (Nat.le_refl _); clear t_)
    | ((with_reducible refine at_allocD 4 47 ?_); refine L_alloc 47 (nl 0) zeroN ?_; intro w2 t_ b_r; have l_r : w.heap.size ≤ w1.heap.size := hB.size; have o_r := b_a.lt; replace b_a := t_.blk b_a (by omega); replace hB := t_.below hB l_r; clear t_)
    | ((with_reducible refine at_storeX 4 47 ?_); refine L_store_all 47 _ _ (w1.heap.size) (nl 0) _ 47 rfl rfl b_r (szN 0) (rfl) (one_nl _) ?_; clear b_r; intro w3 t_ b_r; replace b_a := t_.blk b_a (by omega); replace hB := t_.below hB l_r; clear t_))
  (try simp only [Exit.inBlock, Exit.then])
  exact bodyPost_ret (results_blk_tmp2 rfl _ (nl 0) (.int .i64 0) (.int .i64 1) _ rfl rfl rfl b_r Try.underlying47 rfl (szN 0)) rfl ⟨rfl, hB⟩
end Go.Proofs.Ytcllmobjdnhmlaa
