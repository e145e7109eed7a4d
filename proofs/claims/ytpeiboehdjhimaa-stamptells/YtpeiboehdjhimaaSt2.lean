/- What the program's stamp.Ticks, Micros, Since, view.far and view.nearer answer; nothing that was there is changed. -/
import Derived.Test.YtpeiboehdjhimaaSt1
namespace Go.Proofs.Ytpeiboehdjhimaa
open Go Go.RowKit
set_option linter.unusedVariables false

set_option maxRecDepth 10000 in
set_option maxHeartbeats 4000000 in
theorem ticks_ok (m M Q : Int) (w : World) (hm : In64 m) (hM : Hid (m * 4294967296 = M)) (hQ : Hid (M / 1000000 = Q)) (hq : In64 Q) :
    Calls Try.prog 27 #[.int .i64 m] w fun e w' => e = .returned (.tuple #[.int .i64 (Q), .int .i64 (0)]) ∧ Below w.heap.size w w' := by
  have i32 : In64 4294967296 := by unfold In64; omega
  go_enter Try.func27, Try.ntmps27
  go_wp2_with fail
  refine (part_ok m 4294967296 1000000 M Q hM w hm i32 (by omega) (by omega) hQ hq).mono ?_
  rintro e w1 ⟨rfl, t_⟩
  have hB := t_
  clear t_
  go_wp2_with fail
  go_ret2
  exact ⟨rfl, hB⟩

set_option maxRecDepth 10000 in
set_option maxHeartbeats 4000000 in
theorem ticks_over (m M Q : Int) (w : World) (hm : In64 m) (hM : Hid (m * 4294967296 = M)) (hQ : Hid (M / 1000000 = Q)) (hq : ¬ In64 Q) :
    Calls Try.prog 27 #[.int .i64 m] w fun e w' => e = .returned (.tuple #[.int .i64 (0), .int .i64 (6)]) ∧ Below w.heap.size w w' := by
  have i32 : In64 4294967296 := by unfold In64; omega
  go_enter Try.func27, Try.ntmps27
  go_wp2_with fail
  refine (part_over m 4294967296 1000000 M Q hM w hm i32 (by omega) (by omega) hQ hq).mono ?_
  rintro e w1 ⟨rfl, t_⟩
  have hB := t_
  clear t_
  go_wp2_with fail
  go_ret2
  exact ⟨rfl, hB⟩

set_option maxRecDepth 10000 in
set_option maxHeartbeats 4000000 in
theorem micros_any (n M Q : Int) (w : World) (hn : In64 n) (hM : Hid (n * 1000000 = M)) (hQ : Hid (M / 4294967296 = Q)) :
    Calls Try.prog 29 #[.int .i64 n] w fun e w' => e = .returned (.int .i64 Q) ∧ Below w.heap.size w w' := by
  have i20 : In64 1000000 := by unfold In64; omega
  have hq : In64 Q := by
    have h1 := hM.out; have h2 := hQ.out; unfold In64 at hn ⊢; omega
  go_enter Try.func29, Try.ntmps29
  go_wp2_with fail
  refine (part_ok n 1000000 4294967296 M Q hM w hn i20 (by omega) (by omega) hQ hq).mono ?_
  rintro e w1 ⟨rfl, t_⟩
  have hB := t_
  clear t_
  go_wp2_with fail
  go_ret
  exact ⟨rfl, hB⟩

set_option maxRecDepth 10000 in
set_option maxHeartbeats 4000000 in
theorem since_ok (a b D : Int) (w : World) (ha : In128 a) (hb : In128 b) (hD : Hid (a - b = D)) (hd : In64 D) :
    Calls Try.prog 17 #[.agg (nl a).toArray, .agg (nl b).toArray] w fun e w' => e = .returned (.tuple #[.int .i64 (D), .int .i64 (0)]) ∧ Below w.heap.size w w' := by
  go_enter Try.func17, Try.ntmps17
  go_wp2_with (first
    | ((with_reducible refine at_boxD 2 25 ?_); refine L_box 25 _ (nl (a)) rfl ?_; intro w1 t_ b_a; have l_a : w.heap.size ≤ w.heap.size := Nat.le_refl _; have hB : Below w.heap.size w w1 := t_.below (Below.refl _ _) (Nat.le_refl _); clear t_)
    | ((with_reducible refine at_boxD 3 25 ?_); refine L_box 25 _ (nl (b)) rfl ?_; intro w2 t_ b_b; have l_b : w.heap.size ≤ w1.heap.size := hB.size; have o_b := b_a.lt; replace b_a := t_.blk b_a (by omega); replace hB := t_.below hB l_b; clear t_)
    | ((with_reducible refine at_loadD 9 25 ?_); refine L_load_all 25 _ (w.heap.size) (nl (a)) 25 _ rfl b_a Try.underlying25 rfl (szN 0) ?_)
    | ((with_reducible refine at_loadD 10 25 ?_); refine L_load_all 25 _ (w1.heap.size) (nl (b)) 25 _ rfl b_b Try.underlying25 rfl (szN 0) ?_))
  refine (sub_l a b D w2 ha hb (In64.to D hd) hD).mono ?_
  rintro e w3 ⟨rfl, t_⟩
  replace b_a := b_a.below t_ b_a.lt
  replace b_b := b_b.below t_ b_b.lt
  replace hB := hB.trans (t_.mono hB.size)
  clear t_
  go_wp2_with (first
    | ((with_reducible refine at_allocD 6 25 ?_); refine L_alloc 25 (nl (0)) zeroN ?_; intro w4 t_ b_d; have l_d : w.heap.size ≤ w3.heap.size := hB.size; have o_d := b_b.lt; replace b_a := t_.blk b_a (by omega); replace b_b := t_.blk b_b (by omega); replace hB := t_.below hB l_d; clear t_)
    | ((with_reducible refine at_storeX 6 25 ?_); refine L_store_all 25 _ _ (w3.heap.size) (nl (D)) _ 25 rfl rfl b_d (szN 0) (rfl) (one_nl _) ?_; have b0_d := b_d; clear b_d; intro w5 t_ b_d; replace b_a := t_.blk b_a (by omega); replace b_b := t_.blk b_b (by omega); replace hB := t_.below hB l_d; clear t_ b0_d)
    | ((with_reducible refine at_loadD 17 25 ?_); refine L_load_all 25 _ (w3.heap.size) (nl (D)) 25 _ rfl b_d Try.underlying25 rfl (szN 0) ?_))
  refine (int_ok D w5 hd).mono ?_
  rintro e w6 ⟨rfl, t_⟩
  replace b_a := b_a.below t_ b_a.lt
  replace b_b := b_b.below t_ b_b.lt
  replace b_d := b_d.below t_ b_d.lt
  replace hB := hB.trans (t_.mono hB.size)
  clear t_
  go_wp2_with fail
  go_ret2
  exact ⟨rfl, hB⟩

set_option maxRecDepth 10000 in
set_option maxHeartbeats 4000000 in
theorem since_over1 (a b D : Int) (w : World) (ha : In128 a) (hb : In128 b) (hD : Hid (a - b = D)) (hd1 : In128 D) (hd : ¬ In64 D) :
    Calls Try.prog 17 #[.agg (nl a).toArray, .agg (nl b).toArray] w fun e w' => e = .returned (.tuple #[.int .i64 (0), .int .i64 (6)]) ∧ Below w.heap.size w w' := by
  go_enter Try.func17, Try.ntmps17
  go_wp2_with (first
    | ((with_reducible refine at_boxD 2 25 ?_); refine L_box 25 _ (nl (a)) rfl ?_; intro w1 t_ b_a; have l_a : w.heap.size ≤ w.heap.size := Nat.le_refl _; have hB : Below w.heap.size w w1 := t_.below (Below.refl _ _) (Nat.le_refl _); clear t_)
    | ((with_reducible refine at_boxD 3 25 ?_); refine L_box 25 _ (nl (b)) rfl ?_; intro w2 t_ b_b; have l_b : w.heap.size ≤ w1.heap.size := hB.size; have o_b := b_a.lt; replace b_a := t_.blk b_a (by omega); replace hB := t_.below hB l_b; clear t_)
    | ((with_reducible refine at_loadD 9 25 ?_); refine L_load_all 25 _ (w.heap.size) (nl (a)) 25 _ rfl b_a Try.underlying25 rfl (szN 0) ?_)
    | ((with_reducible refine at_loadD 10 25 ?_); refine L_load_all 25 _ (w1.heap.size) (nl (b)) 25 _ rfl b_b Try.underlying25 rfl (szN 0) ?_))
  refine (sub_l a b D w2 ha hb hd1 hD).mono ?_
  rintro e w3 ⟨rfl, t_⟩
  replace b_a := b_a.below t_ b_a.lt
  replace b_b := b_b.below t_ b_b.lt
  replace hB := hB.trans (t_.mono hB.size)
  clear t_
  go_wp2_with (first
    | ((with_reducible refine at_allocD 6 25 ?_); refine L_alloc 25 (nl (0)) zeroN ?_; intro w4 t_ b_d; have l_d : w.heap.size ≤ w3.heap.size := hB.size; have o_d := b_b.lt; replace b_a := t_.blk b_a (by omega); replace b_b := t_.blk b_b (by omega); replace hB := t_.below hB l_d; clear t_)
    | ((with_reducible refine at_storeX 6 25 ?_); refine L_store_all 25 _ _ (w3.heap.size) (nl (D)) _ 25 rfl rfl b_d (szN 0) (rfl) (one_nl _) ?_; have b0_d := b_d; clear b_d; intro w5 t_ b_d; replace b_a := t_.blk b_a (by omega); replace b_b := t_.blk b_b (by omega); replace hB := t_.below hB l_d; clear t_ b0_d)
    | ((with_reducible refine at_loadD 17 25 ?_); refine L_load_all 25 _ (w3.heap.size) (nl (D)) 25 _ rfl b_d Try.underlying25 rfl (szN 0) ?_))
  refine (int_over D w5 hd).mono ?_
  rintro e w6 ⟨rfl, t_⟩
  replace b_a := b_a.below t_ b_a.lt
  replace b_b := b_b.below t_ b_b.lt
  replace b_d := b_d.below t_ b_d.lt
  replace hB := hB.trans (t_.mono hB.size)
  clear t_
  go_wp2_with fail
  go_ret2
  exact ⟨rfl, hB⟩

set_option maxRecDepth 10000 in
set_option maxHeartbeats 4000000 in
theorem since_over2 (a b : Int) (w : World) (ha : In128 a) (hb : In128 b) (hd : ¬ In128 (a - b)) :
    Calls Try.prog 17 #[.agg (nl a).toArray, .agg (nl b).toArray] w fun e w' => e = .returned (.tuple #[.int .i64 (0), .int .i64 (6)]) ∧ Below w.heap.size w w' := by
  go_enter Try.func17, Try.ntmps17
  go_wp2_with (first
    | ((with_reducible refine at_boxD 2 25 ?_); refine L_box 25 _ (nl (a)) rfl ?_; intro w1 t_ b_a; have l_a : w.heap.size ≤ w.heap.size := Nat.le_refl _; have hB : Below w.heap.size w w1 := t_.below (Below.refl _ _) (Nat.le_refl _); clear t_)
    | ((with_reducible refine at_boxD 3 25 ?_); refine L_box 25 _ (nl (b)) rfl ?_; intro w2 t_ b_b; have l_b : w.heap.size ≤ w1.heap.size := hB.size; have o_b := b_a.lt; replace b_a := t_.blk b_a (by omega); replace hB := t_.below hB l_b; clear t_)
    | ((with_reducible refine at_loadD 9 25 ?_); refine L_load_all 25 _ (w.heap.size) (nl (a)) 25 _ rfl b_a Try.underlying25 rfl (szN 0) ?_)
    | ((with_reducible refine at_loadD 10 25 ?_); refine L_load_all 25 _ (w1.heap.size) (nl (b)) 25 _ rfl b_b Try.underlying25 rfl (szN 0) ?_))
  refine (sub_over a b w2 ha hb hd).mono ?_
  rintro e w3 ⟨rfl, t_⟩
  replace b_a := b_a.below t_ b_a.lt
  replace b_b := b_b.below t_ b_b.lt
  replace hB := hB.trans (t_.mono hB.size)
  clear t_
  go_wp2_with (first
    | ((with_reducible refine at_allocD 6 25 ?_); refine L_alloc 25 (nl (0)) zeroN ?_; intro w4 t_ b_d; have l_d : w.heap.size ≤ w3.heap.size := hB.size; have o_d := b_b.lt; replace b_a := t_.blk b_a (by omega); replace b_b := t_.blk b_b (by omega); replace hB := t_.below hB l_d; clear t_)
    | ((with_reducible refine at_storeX 6 25 ?_); refine L_store_all 25 _ _ (w3.heap.size) (nl (0)) _ 25 rfl rfl b_d (szN 0) (rfl) (one_nl _) ?_; have b0_d := b_d; clear b_d; intro w5 t_ b_d; replace b_a := t_.blk b_a (by omega); replace b_b := t_.blk b_b (by omega); replace hB := t_.below hB l_d; clear t_ b0_d))
  go_ret2
  exact ⟨rfl, hB⟩

theorem since_over (a b : Int) (w : World) (ha : In128 a) (hb : In128 b) (hd : ¬ In64 (a - b)) :
    Calls Try.prog 17 #[.agg (nl a).toArray, .agg (nl b).toArray] w fun e w' => e = .returned (.tuple #[.int .i64 0, .int .i64 6]) ∧ Below w.heap.size w w' := by
  by_cases h : In128 (a - b)
  · exact since_over1 a b (a - b) w ha hb rfl h hd
  · exact since_over2 a b w ha hb h

set_option maxRecDepth 10000 in
set_option maxHeartbeats 4000000 in
theorem far_0 (a : Int) (w : World) (ha : 0 ≤ a) (ha2 : a < 18446744073709551616) :
    Calls Try.prog 53 #[.agg (vl a).toArray, .int .i64 0] w fun e w' => e = .returned (.agg (nl a).toArray) ∧ Below w.heap.size w w' := by
  have h0 : Hid (0 * 18446744073709551616 + a = a) := by show _ = _; omega
  go_enter Try.func53, Try.ntmps53
  go_wp2_with (first
    | ((with_reducible refine at_boxD 2 63 ?_); refine L_box 63 _ (vl (a)) rfl ?_; intro w1 t_ b_v; have l_v : w.heap.size ≤ w.heap.size := Nat.le_refl _; have hB : Below w.heap.size w w1 := t_.below (Below.refl _ _) (Nat.le_refl _); clear t_)
    | ((with_reducible refine at_allocD 4 25 ?_); refine L_alloc 25 (nl (0)) zeroN ?_; intro w2 t_ b_r; have l_r : w.heap.size ≤ w1.heap.size := hB.size; have o_r := b_v.lt; replace b_v := t_.blk b_v (by omega); replace hB := t_.below hB l_r; clear t_)
    | ((with_reducible refine at_loadD 8 63 ?_); refine L_load_all 63 _ (w.heap.size) (vl (a)) 63 _ rfl b_v Try.underlying63 rfl (szV 0) ?_))
  refine (way_any a 0 a w2 ha ha2 h0).mono ?_
  rintro e w3 ⟨rfl, t_⟩
  replace b_v := b_v.below t_ b_v.lt
  replace b_r := b_r.below t_ b_r.lt
  replace hB := hB.trans (t_.mono hB.size)
  clear t_
  go_wp2_with (first
    | ((with_reducible refine at_allocD 5 25 ?_); refine L_alloc 25 (nl (0)) zeroN ?_; intro w4 t_ b_y; have l_y : w.heap.size ≤ w3.heap.size := hB.size; have o_y := b_r.lt; replace b_v := t_.blk b_v (by omega); replace b_r := t_.blk b_r (by omega); replace hB := t_.below hB l_y; clear t_)
    | ((with_reducible refine at_storeX 5 25 ?_); refine L_store_all 25 _ _ (w3.heap.size) (nl (a)) _ 25 rfl rfl b_y (szN 0) (rfl) (one_nl _) ?_; have b0_y := b_y; clear b_y; intro w5 t_ b_y; replace b_v := t_.blk b_v (by omega); replace b_r := t_.blk b_r (by omega); replace hB := t_.below hB l_y; clear t_ b0_y)
    | ((with_reducible refine at_loadD 13 25 ?_); refine L_load_all 25 _ (w3.heap.size) (nl (a)) 25 _ rfl b_y Try.underlying25 rfl (szN 0) ?_)
    | ((with_reducible refine at_storeX 4 25 ?_); refine L_store_all 25 _ _ (w1.heap.size) (nl (a)) _ 25 rfl rfl b_r (szN 0) (rfl) (one_nl _) ?_; have b0_r := b_r; clear b_r; intro w6 t_ b_r; replace b_v := t_.blk b_v (by omega); replace b_y := t_.blk b_y (by omega); replace hB := t_.below hB l_r; clear t_ b0_r))
  exact bodyPost_ret (results_blk rfl _ (nl a) _ rfl b_r Try.underlying25 rfl (szN 0)) rfl ⟨rfl, hB⟩

set_option maxRecDepth 10000 in
set_option maxHeartbeats 4000000 in
theorem far_1 (a b : Int) (w : World) (ha : 0 ≤ a) (ha2 : a < 18446744073709551616) (hb : Hid (18446744073709551616 - a = b)) :
    Calls Try.prog 53 #[.agg (vl a).toArray, .int .i64 (-1)] w fun e w' => e = .returned (.agg (nl b).toArray) ∧ Below w.heap.size w w' := by
  obtain ⟨z, h0⟩ : ∃ z, (-1) * 18446744073709551616 + a = z := ⟨_, rfl⟩
  have h1 : Hid (0 - z = b) := by have := hb.out; show _ = _; omega
  have i0 : In128 0 := by unfold In128; omega
  have i1 : In128 z := by unfold In128; omega
  have i2 : In128 b := by have := hb.out; unfold In128; omega
  replace h0 : Hid _ := h0
  go_enter Try.func53, Try.ntmps53
  go_wp2_with (first
    | ((with_reducible refine at_boxD 2 63 ?_); refine L_box 63 _ (vl (a)) rfl ?_; intro w1 t_ b_v; have l_v : w.heap.size ≤ w.heap.size := Nat.le_refl _; have hB : Below w.heap.size w w1 := t_.below (Below.refl _ _) (Nat.le_refl _); clear t_)
    | ((with_reducible refine at_allocD 4 25 ?_); refine L_alloc 25 (nl (0)) zeroN ?_; intro w2 t_ b_r; have l_r : w.heap.size ≤ w1.heap.size := hB.size; have o_r := b_v.lt; replace b_v := t_.blk b_v (by omega); replace hB := t_.below hB l_r; clear t_)
    | ((with_reducible refine at_loadD 8 63 ?_); refine L_load_all 63 _ (w.heap.size) (vl (a)) 63 _ rfl b_v Try.underlying63 rfl (szV 0) ?_))
  refine (way_any a (-1) z w2 ha ha2 h0).mono ?_
  rintro e w3 ⟨rfl, t_⟩
  replace b_v := b_v.below t_ b_v.lt
  replace b_r := b_r.below t_ b_r.lt
  replace hB := hB.trans (t_.mono hB.size)
  clear t_
  go_wp2_with (first
    | ((with_reducible refine at_allocD 5 25 ?_); refine L_alloc 25 (nl (0)) zeroN ?_; intro w4 t_ b_y; have l_y : w.heap.size ≤ w3.heap.size := hB.size; have o_y := b_r.lt; replace b_v := t_.blk b_v (by omega); replace b_r := t_.blk b_r (by omega); replace hB := t_.below hB l_y; clear t_)
    | ((with_reducible refine at_storeX 5 25 ?_); refine L_store_all 25 _ _ (w3.heap.size) (nl (z)) _ 25 rfl rfl b_y (szN 0) (rfl) (one_nl _) ?_; have b0_y := b_y; clear b_y; intro w5 t_ b_y; replace b_v := t_.blk b_v (by omega); replace b_r := t_.blk b_r (by omega); replace hB := t_.below hB l_y; clear t_ b0_y)
    | ((with_reducible refine at_loadD 16 25 ?_); refine L_load_all 25 _ (w3.heap.size) (nl (z)) 25 _ rfl b_y Try.underlying25 rfl (szN 0) ?_))
  refine (sub_l 0 z b w5 i0 i1 i2 h1).mono ?_
  rintro e w6 ⟨rfl, t_⟩
  replace b_v := b_v.below t_ b_v.lt
  replace b_r := b_r.below t_ b_r.lt
  replace b_y := b_y.below t_ b_y.lt
  replace hB := hB.trans (t_.mono hB.size)
  clear t_
  go_wp2_with (first
    | ((with_reducible refine at_allocD 6 25 ?_); refine L_alloc 25 (nl (0)) zeroN ?_; intro w7 t_ b_k; have l_k : w.heap.size ≤ w6.heap.size := hB.size; have o_k := b_y.lt; replace b_v := t_.blk b_v (by omega); replace b_r := t_.blk b_r (by omega); replace b_y := t_.blk b_y (by omega); replace hB := t_.below hB l_k; clear t_)
    | ((with_reducible refine at_storeX 6 25 ?_); refine L_store_all 25 _ _ (w6.heap.size) (nl (b)) _ 25 rfl rfl b_k (szN 0) (rfl) (one_nl _) ?_; have b0_k := b_k; clear b_k; intro w8 t_ b_k; replace b_v := t_.blk b_v (by omega); replace b_r := t_.blk b_r (by omega); replace b_y := t_.blk b_y (by omega); replace hB := t_.below hB l_k; clear t_ b0_k)
    | ((with_reducible refine at_loadD 20 25 ?_); refine L_load_all 25 _ (w6.heap.size) (nl (b)) 25 _ rfl b_k Try.underlying25 rfl (szN 0) ?_)
    | ((with_reducible refine at_storeX 4 25 ?_); refine L_store_all 25 _ _ (w1.heap.size) (nl (b)) _ 25 rfl rfl b_r (szN 0) (rfl) (one_nl _) ?_; have b0_r := b_r; clear b_r; intro w9 t_ b_r; replace b_v := t_.blk b_v (by omega); replace b_y := t_.blk b_y (by omega); replace b_k := t_.blk b_k (by omega); replace hB := t_.below hB l_r; clear t_ b0_r))
  exact bodyPost_ret (results_blk rfl _ (nl b) _ rfl b_r Try.underlying25 rfl (szN 0)) rfl ⟨rfl, hB⟩

set_option maxRecDepth 10000 in
set_option maxHeartbeats 4000000 in
theorem nearer_any (a b R : Int) (w : World) (ha : 0 ≤ a) (ha2 : a < 18446744073709551616) (hb : Hid (18446744073709551616 - a = b)) (hR : Hid (cmpI b a = R)) :
    Calls Try.prog 34 #[.agg (vl a).toArray, .int .i64 (-1), .int .i64 0] w fun e w' => e = .returned (.int .i64 R) ∧ Below w.heap.size w w' := by
  go_enter Try.func34, Try.ntmps34
  go_wp2_with (first
    | ((with_reducible refine at_boxD 3 63 ?_); refine L_box 63 _ (vl (a)) rfl ?_; intro w1 t_ b_v; have l_v : w.heap.size ≤ w.heap.size := Nat.le_refl _; have hB : Below w.heap.size w w1 := t_.below (Below.refl _ _) (Nat.le_refl _); clear t_)
    | ((with_reducible refine stop_region 1 ?_); intro X1 hX1))
  refine hX1.out ?_
  clear hX1
  refine wp_region_fixed (by kernel_rfl) (by kernel_rfl) [.agg (vl (a)).toArray, .int .i64 (-1), .agg (nl (b)).toArray, .agg (vl (a)).toArray, .int .i64 (0), .agg (nl (a)).toArray, .int .i64 (R), .int .i64 (R)] (by rfl) (fun w9 => Below w1.heap.size w1 w9) (Below.refl _ _).drew ?_ ?_
  · simp only [fullL, Act.put, List.setIfInBounds_toArray, List.set_cons_succ, List.set_cons_zero]
    refine ⟨?_, ?_, ?_, ?_, ?_, ?_, ?_, ?_, trivial⟩
    · exact fun w9 hw => gw rfl (g_load_all 63 _ (w.heap.size) _ 63 _ rfl (b_v.below hw b_v.lt) Try.underlying63 rfl (szV 0) ⟨rfl, hw⟩)
    · exact fun w9 hw => gw rfl (g_move _ _ rfl ⟨rfl, hw⟩)
    · exact fun w9 hw => gw rfl (g_call 53 _ _ [.agg (vl (a)).toArray, .int .i64 (-1)] (kf53 _ _) rfl (mono_val hw (far_1 a b w9 ha ha2 hb)))
    · exact fun w9 hw => gw rfl (g_load_all 63 _ (w.heap.size) _ 63 _ rfl (b_v.below hw b_v.lt) Try.underlying63 rfl (szV 0) ⟨rfl, hw⟩)
    · exact fun w9 hw => gw rfl (g_move _ _ rfl ⟨rfl, hw⟩)
    · exact fun w9 hw => gw rfl (g_call 53 _ _ [.agg (vl (a)).toArray, .int .i64 (0)] (kf53 _ _) rfl (mono_val hw (far_0 a w9 ha ha2)))
    · exact fun w9 hw => gw rfl (g_call 32 _ _ [.agg (nl (b)).toArray, .agg (nl (a)).toArray] (kf32 _ _) rfl (mono_val hw (cmp_any b a w9 R hR)))
    · exact fun w9 hw => gw rfl (g_assign _ _ rfl ⟨rfl, hw⟩)
  simp only [fullL, Act.put, List.setIfInBounds_toArray, List.set_cons_succ, List.set_cons_zero]
  intro w2 hw
  replace b_v := b_v.below hw b_v.lt
  replace hB := hB.trans (hw.mono hB.size)
  clear hw
  go_wp2_with fail
  go_ret
  exact ⟨rfl, hB⟩

end Go.Proofs.Ytpeiboehdjhimaa
