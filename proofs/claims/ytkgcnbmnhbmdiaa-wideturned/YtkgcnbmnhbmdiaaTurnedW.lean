/- WideTurned: the walk. -/
import Derived.Test.YtkgcnbmnhbmdiaaWide6
namespace Go.Proofs.Ytkgcnbmnhbmdiaa.wideTurned
open Go Go.RowKit
set_option linter.unusedVariables false

set_option maxRecDepth 10000 in
set_option maxHeartbeats 4000000 in
theorem walk1 (a : Int) (b : Int) (w_a : In128 a) (w_b : In128 b) (w : World) (ho : In128 (a + b)) :
    Calls Try.prog 6 #[.agg (nl a).toArray, .agg (nl b).toArray] w fun e w' => e = .returned (.bool true) ∧ Below w.heap.size w w' := by
  go_enter Try.func6, Try.ntmps6
  go_wp2_with (first
    | ((with_reducible refine at_boxD 2 24 ?_); refine L_box 24 _ (nl (a)) rfl ?_; intro w1 t_ b_a; have l_a : w.heap.size ≤ w.heap.size := Nat.le_refl _; have hB : Below w.heap.size w w1 := t_.below (Below.refl _ _) (Nat.le_refl _); clear t_)
    | ((with_reducible refine at_boxD 3 24 ?_); refine L_box 24 _ (nl (b)) rfl ?_; intro w2 t_ b_b; have l_b : w.heap.size ≤ w1.heap.size := hB.size; have o_b := b_a.lt; replace b_a := t_.blk b_a (by omega); replace hB := t_.below hB l_b; clear t_))
  refine (awake_any w2).mono ?_
  rintro e w3 ⟨rfl, t_⟩
  replace b_a := b_a.below t_ b_a.lt
  replace b_b := b_b.below t_ b_b.lt
  replace hB := hB.trans (t_.mono hB.size)
  clear t_
  go_wp2_with (first
    | ((with_reducible refine at_loadD 14 24 ?_); refine L_load_all 24 _ (w.heap.size) (nl (a)) 24 _ rfl b_a Try.underlying24 rfl (sz24 0) ?_)
    | ((with_reducible refine at_loadD 15 24 ?_); refine L_load_all 24 _ (w1.heap.size) (nl (b)) 24 _ rfl b_b Try.underlying24 rfl (sz24 0) ?_))
  refine (add_ok a b w3 w_a w_b ho).mono ?_
  rintro e w4 ⟨rfl, t_⟩
  replace b_a := b_a.below t_ b_a.lt
  replace b_b := b_b.below t_ b_b.lt
  replace hB := hB.trans (t_.mono hB.size)
  clear t_
  go_wp2_with (first
    | ((with_reducible refine at_allocD 5 24 ?_); refine L_alloc 24 (nl (0)) zero24 ?_; intro w5 t_ b_x; have l_x : w.heap.size ≤ w4.heap.size := hB.size; have o_x := b_b.lt; replace b_a := t_.blk b_a (by omega); replace b_b := t_.blk b_b (by omega); replace hB := t_.below hB l_x; clear t_)
    | ((with_reducible refine at_storeX 5 24 ?_); refine L_store_all 24 _ _ (w4.heap.size) (nl (a + b)) _ 24 rfl rfl b_x (sz24 0) (rfl) (one_nl _) ?_; clear b_x; intro w6 t_ b_x; replace b_a := t_.blk b_a (by omega); replace b_b := t_.blk b_b (by omega); replace hB := t_.below hB l_x; clear t_)
    | ((with_reducible refine at_loadD 20 24 ?_); refine L_load_all 24 _ (w1.heap.size) (nl (b)) 24 _ rfl b_b Try.underlying24 rfl (sz24 0) ?_)
    | ((with_reducible refine at_loadD 21 24 ?_); refine L_load_all 24 _ (w.heap.size) (nl (a)) 24 _ rfl b_a Try.underlying24 rfl (sz24 0) ?_))
  refine (add_l b a (a + b) w6 w_b w_a ho (by show _ = _; omega)).mono ?_
  rintro e w7 ⟨rfl, t_⟩
  replace b_a := b_a.below t_ b_a.lt
  replace b_b := b_b.below t_ b_b.lt
  replace b_x := b_x.below t_ b_x.lt
  replace hB := hB.trans (t_.mono hB.size)
  clear t_
  go_wp2_with (first
    | ((with_reducible refine at_allocD 7 24 ?_); refine L_alloc 24 (nl (0)) zero24 ?_; intro w8 t_ b_y; have l_y : w.heap.size ≤ w7.heap.size := hB.size; have o_y := b_x.lt; replace b_a := t_.blk b_a (by omega); replace b_b := t_.blk b_b (by omega); replace b_x := t_.blk b_x (by omega); replace hB := t_.below hB l_y; clear t_)
    | ((with_reducible refine at_storeX 7 24 ?_); refine L_store_all 24 _ _ (w7.heap.size) (nl (a + b)) _ 24 rfl rfl b_y (sz24 0) (rfl) (one_nl _) ?_; clear b_y; intro w9 t_ b_y; replace b_a := t_.blk b_a (by omega); replace b_b := t_.blk b_b (by omega); replace b_x := t_.blk b_x (by omega); replace hB := t_.below hB l_y; clear t_)
    | ((with_reducible refine at_loadD 25 24 ?_); refine L_load_all 24 _ (w4.heap.size) (nl (a + b)) 24 _ rfl b_x Try.underlying24 rfl (sz24 0) ?_)
    | ((with_reducible refine at_loadD 26 24 ?_); refine L_load_all 24 _ (w7.heap.size) (nl (a + b)) 24 _ rfl b_y Try.underlying24 rfl (sz24 0) ?_)
    | ((with_reducible refine at_binD 27 ?_); refine L_give (by rfl) (g_neq24 _ _ (a + b) (a + b) true rfl rfl (decide_eq_true rfl) ?_))
    | ((with_reducible refine at_loadD 36 24 ?_); refine L_load_all 24 _ (w4.heap.size) (nl (a + b)) 24 _ rfl b_x Try.underlying24 rfl (sz24 0) ?_)
    | ((with_reducible refine at_loadD 37 24 ?_); refine L_load_all 24 _ (w1.heap.size) (nl (b)) 24 _ rfl b_b Try.underlying24 rfl (sz24 0) ?_))
  refine (sub_l (a + b) b a w9 ho w_b w_a (by show _ = _; omega)).mono ?_
  rintro e w10 ⟨rfl, t_⟩
  replace b_a := b_a.below t_ b_a.lt
  replace b_b := b_b.below t_ b_b.lt
  replace b_x := b_x.below t_ b_x.lt
  replace b_y := b_y.below t_ b_y.lt
  replace hB := hB.trans (t_.mono hB.size)
  clear t_
  go_wp2_with (first
    | ((with_reducible refine at_allocD 9 24 ?_); refine L_alloc 24 (nl (0)) zero24 ?_; intro w11 t_ b_z; have l_z : w.heap.size ≤ w10.heap.size := hB.size; have o_z := b_y.lt; replace b_a := t_.blk b_a (by omega); replace b_b := t_.blk b_b (by omega); replace b_x := t_.blk b_x (by omega); replace b_y := t_.blk b_y (by omega); replace hB := t_.below hB l_z; clear t_)
    | ((with_reducible refine at_storeX 9 24 ?_); refine L_store_all 24 _ _ (w10.heap.size) (nl (a)) _ 24 rfl rfl b_z (sz24 0) (rfl) (one_nl _) ?_; clear b_z; intro w12 t_ b_z; replace b_a := t_.blk b_a (by omega); replace b_b := t_.blk b_b (by omega); replace b_x := t_.blk b_x (by omega); replace b_y := t_.blk b_y (by omega); replace hB := t_.below hB l_z; clear t_)
    | ((with_reducible refine at_loadDG 44 ?_); refine L_give (by rfl) (g_load_all 24 _ (w10.heap.size) (nl (a)) 24 _ rfl b_z Try.underlying24 rfl (sz24 0) ?_))
    | ((with_reducible refine at_loadDG 45 ?_); refine L_give (by rfl) (g_load_all 24 _ (w.heap.size) (nl (a)) 24 _ rfl b_a Try.underlying24 rfl (sz24 0) ?_))
    | ((with_reducible refine at_binD 46 ?_); refine L_give (by rfl) (g_eql24 _ _ (a) (a) true rfl rfl (decide_eq_true rfl) ?_)))
  go_ret
  exact ⟨rfl, hB⟩

set_option maxRecDepth 10000 in
set_option maxHeartbeats 4000000 in
theorem walk21 (a : Int) (b : Int) (w_a : In128 a) (w_b : In128 b) (w : World) (ho : ¬ In128 (a + b)) (hab : a < 0 ∧ b < 0) :
    Calls Try.prog 6 #[.agg (nl a).toArray, .agg (nl b).toArray] w fun e w' => e = .returned (.bool true) ∧ Below w.heap.size w w' := by
  have hp : Hid (¬ In128 (b + a)) := by show ¬ _; rwa [Int.add_comm]
  obtain ⟨ah, hah⟩ : ∃ h, a / 18446744073709551616 = h := ⟨_, rfl⟩
  obtain ⟨bh, hbh⟩ : ∃ h, b / 18446744073709551616 = h := ⟨_, rfl⟩
  have n1 : ah < 0 := by omega
  have n2 : bh < 0 := by omega
  replace hah : Hid _ := hah
  replace hbh : Hid _ := hbh
  clear hab
  go_enter Try.func6, Try.ntmps6
  go_wp2_with (first
    | ((with_reducible refine at_boxD 2 24 ?_); refine L_box 24 _ (nl (a)) rfl ?_; intro w1 t_ b_a; have l_a : w.heap.size ≤ w.heap.size := Nat.le_refl _; have hB : Below w.heap.size w w1 := t_.below (Below.refl _ _) (Nat.le_refl _); clear t_)
    | ((with_reducible refine at_boxD 3 24 ?_); refine L_box 24 _ (nl (b)) rfl ?_; intro w2 t_ b_b; have l_b : w.heap.size ≤ w1.heap.size := hB.size; have o_b := b_a.lt; replace b_a := t_.blk b_a (by omega); replace hB := t_.below hB l_b; clear t_))
  refine (awake_any w2).mono ?_
  rintro e w3 ⟨rfl, t_⟩
  replace b_a := b_a.below t_ b_a.lt
  replace b_b := b_b.below t_ b_b.lt
  replace hB := hB.trans (t_.mono hB.size)
  clear t_
  go_wp2_with (first
    | ((with_reducible refine at_loadD 14 24 ?_); refine L_load_all 24 _ (w.heap.size) (nl (a)) 24 _ rfl b_a Try.underlying24 rfl (sz24 0) ?_)
    | ((with_reducible refine at_loadD 15 24 ?_); refine L_load_all 24 _ (w1.heap.size) (nl (b)) 24 _ rfl b_b Try.underlying24 rfl (sz24 0) ?_))
  refine (add_over a b w3 w_a w_b ho).mono ?_
  rintro e w4 ⟨rfl, t_⟩
  replace b_a := b_a.below t_ b_a.lt
  replace b_b := b_b.below t_ b_b.lt
  replace hB := hB.trans (t_.mono hB.size)
  clear t_
  go_wp2_with (first
    | ((with_reducible refine at_allocD 5 24 ?_); refine L_alloc 24 (nl (0)) zero24 ?_; intro w5 t_ b_x; have l_x : w.heap.size ≤ w4.heap.size := hB.size; have o_x := b_b.lt; replace b_a := t_.blk b_a (by omega); replace b_b := t_.blk b_b (by omega); replace hB := t_.below hB l_x; clear t_)
    | ((with_reducible refine at_storeX 5 24 ?_); refine L_store_all 24 _ _ (w4.heap.size) (nl (0)) _ 24 rfl rfl b_x (sz24 0) (rfl) (one_nl _) ?_; clear b_x; intro w6 t_ b_x; replace b_a := t_.blk b_a (by omega); replace b_b := t_.blk b_b (by omega); replace hB := t_.below hB l_x; clear t_)
    | ((with_reducible refine at_loadD 20 24 ?_); refine L_load_all 24 _ (w1.heap.size) (nl (b)) 24 _ rfl b_b Try.underlying24 rfl (sz24 0) ?_)
    | ((with_reducible refine at_loadD 21 24 ?_); refine L_load_all 24 _ (w.heap.size) (nl (a)) 24 _ rfl b_a Try.underlying24 rfl (sz24 0) ?_))
  refine (add_over b a w6 w_b w_a hp.out).mono ?_
  rintro e w7 ⟨rfl, t_⟩
  replace b_a := b_a.below t_ b_a.lt
  replace b_b := b_b.below t_ b_b.lt
  replace b_x := b_x.below t_ b_x.lt
  replace hB := hB.trans (t_.mono hB.size)
  clear t_
  go_wp2_with (first
    | ((with_reducible refine at_allocD 7 24 ?_); refine L_alloc 24 (nl (0)) zero24 ?_; intro w8 t_ b_y; have l_y : w.heap.size ≤ w7.heap.size := hB.size; have o_y := b_x.lt; replace b_a := t_.blk b_a (by omega); replace b_b := t_.blk b_b (by omega); replace b_x := t_.blk b_x (by omega); replace hB := t_.below hB l_y; clear t_)
    | ((with_reducible refine at_storeX 7 24 ?_); refine L_store_all 24 _ _ (w7.heap.size) (nl (0)) _ 24 rfl rfl b_y (sz24 0) (rfl) (one_nl _) ?_; clear b_y; intro w9 t_ b_y; replace b_a := t_.blk b_a (by omega); replace b_b := t_.blk b_b (by omega); replace b_x := t_.blk b_x (by omega); replace hB := t_.below hB l_y; clear t_)
    | ((with_reducible refine at_loadD 25 24 ?_); refine L_load_all 24 _ (w4.heap.size) (nl (0)) 24 _ rfl b_x Try.underlying24 rfl (sz24 0) ?_)
    | ((with_reducible refine at_loadD 26 24 ?_); refine L_load_all 24 _ (w7.heap.size) (nl (0)) 24 _ rfl b_y Try.underlying24 rfl (sz24 0) ?_)
    | ((with_reducible refine at_binD 27 ?_); refine L_give (by rfl) (g_neq24 _ _ (0) (0) true rfl rfl (decide_eq_true rfl) ?_))
    | ((with_reducible refine at_loadD 49 2 ?_); refine L_cell2 _ (w.heap.size) 0 (nl (a)) 24 (.int .i64 (ah)) rfl b_a (nl0 _ _ hah.out) ?_)
    | ((with_reducible refine at_binD 50 ?_); refine L_give (by rfl) (g_ilss 2 _ _ .i64 _ _ true rfl rfl (decide_eq_true (by omega)) ?_))
    | ((with_reducible refine at_loadD 52 2 ?_); refine L_cell2 _ (w1.heap.size) 0 (nl (b)) 24 (.int .i64 (bh)) rfl b_b (nl0 _ _ hbh.out) ?_)
    | ((with_reducible refine at_binD 53 ?_); refine L_give (by rfl) (g_ilss 2 _ _ .i64 _ _ true rfl rfl (decide_eq_true (by omega)) ?_)))
  go_ret
  exact ⟨rfl, hB⟩

set_option maxRecDepth 10000 in
set_option maxHeartbeats 4000000 in
theorem walk20 (a : Int) (b : Int) (w_a : In128 a) (w_b : In128 b) (w : World) (ho : ¬ In128 (a + b)) (hab : ¬ a < 0 ∧ ¬ b < 0) :
    Calls Try.prog 6 #[.agg (nl a).toArray, .agg (nl b).toArray] w fun e w' => e = .returned (.bool true) ∧ Below w.heap.size w w' := by
  have hp : Hid (¬ In128 (b + a)) := by show ¬ _; rwa [Int.add_comm]
  obtain ⟨ah, hah⟩ : ∃ h, a / 18446744073709551616 = h := ⟨_, rfl⟩
  obtain ⟨bh, hbh⟩ : ∃ h, b / 18446744073709551616 = h := ⟨_, rfl⟩
  have n1 : ¬ ah < 0 := by omega
  have n2 : ¬ bh < 0 := by omega
  replace hah : Hid _ := hah
  replace hbh : Hid _ := hbh
  clear hab
  go_enter Try.func6, Try.ntmps6
  go_wp2_with (first
    | ((with_reducible refine at_boxD 2 24 ?_); refine L_box 24 _ (nl (a)) rfl ?_; intro w1 t_ b_a; have l_a : w.heap.size ≤ w.heap.size := Nat.le_refl _; have hB : Below w.heap.size w w1 := t_.below (Below.refl _ _) (Nat.le_refl _); clear t_)
    | ((with_reducible refine at_boxD 3 24 ?_); refine L_box 24 _ (nl (b)) rfl ?_; intro w2 t_ b_b; have l_b : w.heap.size ≤ w1.heap.size := hB.size; have o_b := b_a.lt; replace b_a := t_.blk b_a (by omega); replace hB := t_.below hB l_b; clear t_))
  refine (awake_any w2).mono ?_
  rintro e w3 ⟨rfl, t_⟩
  replace b_a := b_a.below t_ b_a.lt
  replace b_b := b_b.below t_ b_b.lt
  replace hB := hB.trans (t_.mono hB.size)
  clear t_
  go_wp2_with (first
    | ((with_reducible refine at_loadD 14 24 ?_); refine L_load_all 24 _ (w.heap.size) (nl (a)) 24 _ rfl b_a Try.underlying24 rfl (sz24 0) ?_)
    | ((with_reducible refine at_loadD 15 24 ?_); refine L_load_all 24 _ (w1.heap.size) (nl (b)) 24 _ rfl b_b Try.underlying24 rfl (sz24 0) ?_))
  refine (add_over a b w3 w_a w_b ho).mono ?_
  rintro e w4 ⟨rfl, t_⟩
  replace b_a := b_a.below t_ b_a.lt
  replace b_b := b_b.below t_ b_b.lt
  replace hB := hB.trans (t_.mono hB.size)
  clear t_
  go_wp2_with (first
    | ((with_reducible refine at_allocD 5 24 ?_); refine L_alloc 24 (nl (0)) zero24 ?_; intro w5 t_ b_x; have l_x : w.heap.size ≤ w4.heap.size := hB.size; have o_x := b_b.lt; replace b_a := t_.blk b_a (by omega); replace b_b := t_.blk b_b (by omega); replace hB := t_.below hB l_x; clear t_)
    | ((with_reducible refine at_storeX 5 24 ?_); refine L_store_all 24 _ _ (w4.heap.size) (nl (0)) _ 24 rfl rfl b_x (sz24 0) (rfl) (one_nl _) ?_; clear b_x; intro w6 t_ b_x; replace b_a := t_.blk b_a (by omega); replace b_b := t_.blk b_b (by omega); replace hB := t_.below hB l_x; clear t_)
    | ((with_reducible refine at_loadD 20 24 ?_); refine L_load_all 24 _ (w1.heap.size) (nl (b)) 24 _ rfl b_b Try.underlying24 rfl (sz24 0) ?_)
    | ((with_reducible refine at_loadD 21 24 ?_); refine L_load_all 24 _ (w.heap.size) (nl (a)) 24 _ rfl b_a Try.underlying24 rfl (sz24 0) ?_))
  refine (add_over b a w6 w_b w_a hp.out).mono ?_
  rintro e w7 ⟨rfl, t_⟩
  replace b_a := b_a.below t_ b_a.lt
  replace b_b := b_b.below t_ b_b.lt
  replace b_x := b_x.below t_ b_x.lt
  replace hB := hB.trans (t_.mono hB.size)
  clear t_
  go_wp2_with (first
    | ((with_reducible refine at_allocD 7 24 ?_); refine L_alloc 24 (nl (0)) zero24 ?_; intro w8 t_ b_y; have l_y : w.heap.size ≤ w7.heap.size := hB.size; have o_y := b_x.lt; replace b_a := t_.blk b_a (by omega); replace b_b := t_.blk b_b (by omega); replace b_x := t_.blk b_x (by omega); replace hB := t_.below hB l_y; clear t_)
    | ((with_reducible refine at_storeX 7 24 ?_); refine L_store_all 24 _ _ (w7.heap.size) (nl (0)) _ 24 rfl rfl b_y (sz24 0) (rfl) (one_nl _) ?_; clear b_y; intro w9 t_ b_y; replace b_a := t_.blk b_a (by omega); replace b_b := t_.blk b_b (by omega); replace b_x := t_.blk b_x (by omega); replace hB := t_.below hB l_y; clear t_)
    | ((with_reducible refine at_loadD 25 24 ?_); refine L_load_all 24 _ (w4.heap.size) (nl (0)) 24 _ rfl b_x Try.underlying24 rfl (sz24 0) ?_)
    | ((with_reducible refine at_loadD 26 24 ?_); refine L_load_all 24 _ (w7.heap.size) (nl (0)) 24 _ rfl b_y Try.underlying24 rfl (sz24 0) ?_)
    | ((with_reducible refine at_binD 27 ?_); refine L_give (by rfl) (g_neq24 _ _ (0) (0) true rfl rfl (decide_eq_true rfl) ?_))
    | ((with_reducible refine at_loadD 49 2 ?_); refine L_cell2 _ (w.heap.size) 0 (nl (a)) 24 (.int .i64 (ah)) rfl b_a (nl0 _ _ hah.out) ?_)
    | ((with_reducible refine at_binD 50 ?_); refine L_give (by rfl) (g_ilss 2 _ _ .i64 _ _ false rfl rfl (decide_eq_false (by omega)) ?_))
    | ((with_reducible refine at_loadD 52 2 ?_); refine L_cell2 _ (w1.heap.size) 0 (nl (b)) 24 (.int .i64 (bh)) rfl b_b (nl0 _ _ hbh.out) ?_)
    | ((with_reducible refine at_binD 53 ?_); refine L_give (by rfl) (g_ilss 2 _ _ .i64 _ _ false rfl rfl (decide_eq_false (by omega)) ?_)))
  go_ret
  exact ⟨rfl, hB⟩

theorem walk (a : Int) (b : Int) (w_a : In128 a) (w_b : In128 b) (w : World) :
    Calls Try.prog 6 #[.agg (nl a).toArray, .agg (nl b).toArray] w fun e w' => e = .returned (.bool true) ∧ Below w.heap.size w w' := by
  by_cases ho : In128 (a + b)
  · exact walk1 a b w_a w_b w ho
  · by_cases na : a < 0
    · exact walk21 a b w_a w_b w ho (by unfold In128 at *; omega)
    · exact walk20 a b w_a w_b w ho (by unfold In128 at *; omega)

end Go.Proofs.Ytkgcnbmnhbmdiaa.wideTurned
