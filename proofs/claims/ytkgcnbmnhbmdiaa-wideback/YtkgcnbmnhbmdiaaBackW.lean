/- WideBack: the walk. -/
import Derived.Test.YtkgcnbmnhbmdiaaWide6
namespace Go.Proofs.Ytkgcnbmnhbmdiaa.wideBack
open Go Go.RowKit
set_option linter.unusedVariables false
theorem quot_neg (m n : Int) (hm : m < 0) (h0 : 1 ≤ n) : m / n < 0 := Int.ediv_lt_of_lt_mul (by omega) (by omega)
theorem quot_pos (m n : Int) (hm : ¬ m < 0) (h0 : 1 ≤ n) : ¬ m / n < 0 := by
  have := Int.ediv_nonneg (a := m) (b := n) (by omega) (by omega)
  omega
theorem quot_in (a n : Int) (ha : In64 a) (h0 : 1 ≤ n) : In64 (a / n) := by
  unfold In64 at *
  constructor
  · refine Int.le_ediv_of_mul_le (by omega) ?_
    have : -9223372036854775808 * n ≤ -9223372036854775808 * 1 := Int.mul_le_mul_of_nonpos_left (by omega) h0
    omega
  · refine Int.ediv_lt_of_lt_mul (by omega) ?_
    have : 9223372036854775808 * 1 ≤ 9223372036854775808 * n := Int.mul_le_mul_of_nonneg_left h0 (by omega)
    omega

set_option maxRecDepth 10000 in
set_option maxHeartbeats 4000000 in
theorem walk0 (a : Int) (n : Int) (m : Int) (w_a : In64 a) (w_n : In64 n) (w_m : In128 m) (w : World) (h : n < 1) :
    Calls Try.prog 7 #[.int .i64 a, .int .i64 n, .agg (nl m).toArray] w fun e w' => e = .returned (.bool true) ∧ Below w.heap.size w w' := by
  go_enter Try.func7, Try.ntmps7
  go_wp2_with (first
    | ((with_reducible refine at_boxD 5 24 ?_); refine L_box 24 _ (nl (m)) rfl ?_; intro w1 t_ b_m; have l_m : w.heap.size ≤ w.heap.size := Nat.le_refl _; have hB : Below w.heap.size w w1 := t_.below (Below.refl _ _) (Nat.le_refl _); clear t_))
  refine (awake_any w1).mono ?_
  rintro e w2 ⟨rfl, t_⟩
  replace b_m := b_m.below t_ b_m.lt
  replace hB := hB.trans (t_.mono hB.size)
  clear t_
  go_wp2_with (first
    | ((with_reducible refine at_binD 20 ?_); refine L_give (by rfl) (g_ilss 2 _ _ .i64 _ _ true rfl rfl (decide_eq_true h) ?_)))
  go_ret
  exact ⟨rfl, hB⟩

set_option maxRecDepth 10000 in
set_option maxHeartbeats 4000000 in
theorem walk1 (a : Int) (n : Int) (m : Int) (w_a : In64 a) (w_n : In64 n) (w_m : In128 m) (w : World) (h0 : 1 ≤ n) (h1 : n < 9223372036854775808) (Q R M U V X mh : Int) (hQ : Hid (a / n = Q)) (hR : Hid (a % n = R)) (hM : Hid (Q * n = M)) (hU : Hid (m / n = U)) (hV : Hid (m % n = V)) (hX : Hid (cmpI U 0 = X)) (hmh : Hid (m / 18446744073709551616 = mh)) (hm : m < 0) :
    Calls Try.prog 7 #[.int .i64 a, .int .i64 n, .agg (nl m).toArray] w fun e w' => e = .returned (.bool true) ∧ Below w.heap.size w w' := by
  have r0 : 0 ≤ R ∧ R < n := by
    have e := hR.out
    have e1 := Int.emod_nonneg a (show n ≠ 0 by omega)
    have e2 := Int.emod_lt_of_pos a (show 0 < n by omega)
    omega
  have v0 : 0 ≤ V ∧ V < n := by
    have e := hV.out
    have e1 := Int.emod_nonneg m (show n ≠ 0 by omega)
    have e2 := Int.emod_lt_of_pos m (show 0 < n by omega)
    omega
  have hq : Hid (In64 Q) := by
    show In64 Q
    have e := hQ.out
    rw [← e]
    exact quot_in a n w_a h0
  have hr : Hid (In64 R) := by show In64 R; unfold In64; omega
  have hs : Hid (M + R = a) := by
    show _ = _
    rw [← hM.out, ← hQ.out, ← hR.out, Int.mul_comm]
    exact Int.mul_ediv_add_emod a n
  have u0 : U < 0 := by
    have e := hU.out
    rw [← e]
    exact quot_neg m n hm h0
  have x0 : X < 0 := by
    have e := hX.out
    rw [← e]
    unfold cmpI
    repeat' split
    all_goals omega
  have m0 : mh < 0 := by
    have e := hmh.out
    omega
  go_enter Try.func7, Try.ntmps7
  go_wp2_with (first
    | ((with_reducible refine at_boxD 5 24 ?_); refine L_box 24 _ (nl (m)) rfl ?_; intro w1 t_ b_m; have l_m : w.heap.size ≤ w.heap.size := Nat.le_refl _; have hB : Below w.heap.size w w1 := t_.below (Below.refl _ _) (Nat.le_refl _); clear t_))
  refine (awake_any w1).mono ?_
  rintro e w2 ⟨rfl, t_⟩
  replace b_m := b_m.below t_ b_m.lt
  replace hB := hB.trans (t_.mono hB.size)
  clear t_
  go_wp2_with (first
    | ((with_reducible refine at_binD 20 ?_); refine L_give (by rfl) (g_ilss 2 _ _ .i64 _ _ false rfl rfl (decide_eq_false (by omega)) ?_)))
  refine (of_any a w2 w_a).mono ?_
  rintro e w3 ⟨rfl, t_⟩
  replace b_m := b_m.below t_ b_m.lt
  replace hB := hB.trans (t_.mono hB.size)
  clear t_
  go_wp2_with fail
  refine (div_any a n w3 (In64.to a w_a) h0 h1 Q R hQ hR).mono ?_
  rintro e w4 ⟨rfl, t_⟩
  replace b_m := b_m.below t_ b_m.lt
  replace hB := hB.trans (t_.mono hB.size)
  clear t_
  go_wp2_with (first
    | ((with_reducible refine at_allocD 7 24 ?_); refine L_alloc 24 (nl (0)) zero24 ?_; intro w5 t_ b_q; have l_q : w.heap.size ≤ w4.heap.size := hB.size; have o_q := b_m.lt; replace b_m := t_.blk b_m (by omega); replace hB := t_.below hB l_q; clear t_)
    | ((with_reducible refine at_storeX 7 24 ?_); refine L_store_all 24 _ _ (w4.heap.size) (nl (Q)) _ 24 rfl rfl b_q (sz24 0) (rfl) (one_nl _) ?_; clear b_q; intro w6 t_ b_q; replace b_m := t_.blk b_m (by omega); replace hB := t_.below hB l_q; clear t_)
    | ((with_reducible refine at_loadD 30 24 ?_); refine L_load_all 24 _ (w4.heap.size) (nl (Q)) 24 _ rfl b_q Try.underlying24 rfl (sz24 0) ?_))
  refine (int_ok Q w6 hq.out).mono ?_
  rintro e w7 ⟨rfl, t_⟩
  replace b_m := b_m.below t_ b_m.lt
  replace b_q := b_q.below t_ b_q.lt
  replace hB := hB.trans (t_.mono hB.size)
  clear t_
  go_wp2_with (first
    | ((with_reducible refine at_binD 42 ?_); refine L_give (by rfl) (g_ilss 2 _ _ .i64 _ _ false rfl rfl (decide_eq_false (by omega)) ?_))
    | ((with_reducible refine at_binD 47 ?_); refine L_give (by rfl) (g_igeq 2 _ _ .i64 _ _ false rfl rfl (decide_eq_false (by omega)) ?_)))
  refine (times_l Q n M hM w7 hq.out w_n).mono ?_
  rintro e w8 ⟨rfl, t_⟩
  replace b_m := b_m.below t_ b_m.lt
  replace b_q := b_q.below t_ b_q.lt
  replace hB := hB.trans (t_.mono hB.size)
  clear t_
  go_wp2_with fail
  refine (of_any R w8 hr.out).mono ?_
  rintro e w9 ⟨rfl, t_⟩
  replace b_m := b_m.below t_ b_m.lt
  replace b_q := b_q.below t_ b_q.lt
  replace hB := hB.trans (t_.mono hB.size)
  clear t_
  go_wp2_with fail
  refine (add_l M R a w9 (prod_in Q n M hM hq.out w_n).out (In64.to R hr.out) (In64.to a w_a) hs).mono ?_
  rintro e w10 ⟨rfl, t_⟩
  replace b_m := b_m.below t_ b_m.lt
  replace b_q := b_q.below t_ b_q.lt
  replace hB := hB.trans (t_.mono hB.size)
  clear t_
  go_wp2_with (first
    | ((with_reducible refine at_allocD 12 24 ?_); refine L_alloc 24 (nl (0)) zero24 ?_; intro w11 t_ b_s; have l_s : w.heap.size ≤ w10.heap.size := hB.size; have o_s := b_q.lt; replace b_m := t_.blk b_m (by omega); replace b_q := t_.blk b_q (by omega); replace hB := t_.below hB l_s; clear t_)
    | ((with_reducible refine at_storeX 12 24 ?_); refine L_store_all 24 _ _ (w10.heap.size) (nl (a)) _ 24 rfl rfl b_s (sz24 0) (rfl) (one_nl _) ?_; clear b_s; intro w12 t_ b_s; replace b_m := t_.blk b_m (by omega); replace b_q := t_.blk b_q (by omega); replace hB := t_.below hB l_s; clear t_)
    | ((with_reducible refine at_loadD 59 24 ?_); refine L_load_all 24 _ (w.heap.size) (nl (m)) 24 _ rfl b_m Try.underlying24 rfl (sz24 0) ?_))
  refine (div_any m n w12 w_m h0 h1 U V hU hV).mono ?_
  rintro e w13 ⟨rfl, t_⟩
  replace b_m := b_m.below t_ b_m.lt
  replace b_q := b_q.below t_ b_q.lt
  replace b_s := b_s.below t_ b_s.lt
  replace hB := hB.trans (t_.mono hB.size)
  clear t_
  go_wp2_with (first
    | ((with_reducible refine at_allocD 14 24 ?_); refine L_alloc 24 (nl (0)) zero24 ?_; intro w14 t_ b_p; have l_p : w.heap.size ≤ w13.heap.size := hB.size; have o_p := b_s.lt; replace b_m := t_.blk b_m (by omega); replace b_q := t_.blk b_q (by omega); replace b_s := t_.blk b_s (by omega); replace hB := t_.below hB l_p; clear t_)
    | ((with_reducible refine at_storeX 14 24 ?_); refine L_store_all 24 _ _ (w13.heap.size) (nl (U)) _ 24 rfl rfl b_p (sz24 0) (rfl) (one_nl _) ?_; clear b_p; intro w15 t_ b_p; replace b_m := t_.blk b_m (by omega); replace b_q := t_.blk b_q (by omega); replace b_s := t_.blk b_s (by omega); replace hB := t_.below hB l_p; clear t_)
    | ((with_reducible refine stop_region 11 ?_); intro X1 hX1))
  refine hX1.out ?_
  clear hX1
  refine wp_region_fixed (by kernel_rfl) (by kernel_rfl) [.int .i64 (0), .bool true, .bool true, .agg (nl (a)).toArray, .int .i64 (a), .agg (nl (a)).toArray, .bool true, .bool true, .bool true, .int .i64 (0), .bool true, .bool true, .bool true, .int .i64 (V), .bool true, .bool true, .bool true, .int .i64 (V), .int .i64 (n), .bool true, .bool true, .bool true, .agg (nl (U)).toArray, .agg (nl (0)).toArray, .int .i64 (X), .bool true, .pointer (some ⟨w.heap.size, 0, none⟩), .int .i64 (mh), .bool true, .bool true, .bool true, .bool true] (by rfl) (fun w9 => Below w15.heap.size w15 w9) (Below.refl _ _).drew ?_ ?_
  · simp only [fullL, Act.put, List.setIfInBounds_toArray, List.set_cons_succ, List.set_cons_zero]
    refine ⟨?_, ?_, ?_, ?_, ?_, ?_, ?_, ?_, ?_, ?_, ?_, ?_, ?_, ?_, ?_, ?_, ?_, ?_, ?_, ?_, ?_, ?_, ?_, ?_, ?_, ?_, ?_, ?_, ?_, ?_, ?_, ?_, trivial⟩
    · exact fun w9 hw => gw rfl (g_move _ _ rfl ⟨rfl, hw⟩)
    · exact fun w9 hw => gw rfl (g_ieq 26 _ _ .i64 _ _ true rfl rfl (by decide) ⟨rfl, hw⟩)
    · exact fun w9 hw => gw rfl (g_move _ _ rfl ⟨rfl, hw⟩)
    · exact fun w9 hw => gw rfl (g_load_all 24 _ (w10.heap.size) _ 24 _ rfl (b_s.below hw b_s.lt) Try.underlying24 rfl (sz24 0) ⟨rfl, hw⟩)
    · exact fun w9 hw => gw rfl (g_move _ _ rfl ⟨rfl, hw⟩)
    · exact fun w9 hw => gw rfl (g_call 17 _ _ [.int .i64 (a)] (kf17 _ _) rfl (mono_val hw (of_any a w9 w_a)))
    · exact fun w9 hw => gw rfl (g_eql24 _ _ (a) (a) true rfl rfl (decide_eq_true rfl) ⟨rfl, hw⟩)
    · exact fun w9 hw => gw rfl (g_pickt _ _ _ _ rfl rfl ⟨rfl, hw⟩)
    · exact fun w9 hw => gw rfl (g_move _ _ rfl ⟨rfl, hw⟩)
    · exact fun w9 hw => gw rfl (g_move _ _ rfl ⟨rfl, hw⟩)
    · exact fun w9 hw => gw rfl (g_ieq 26 _ _ .i64 _ _ true rfl rfl (by decide) ⟨rfl, hw⟩)
    · exact fun w9 hw => gw rfl (g_pickt _ _ _ _ rfl rfl ⟨rfl, hw⟩)
    · exact fun w9 hw => gw rfl (g_move _ _ rfl ⟨rfl, hw⟩)
    · exact fun w9 hw => gw rfl (g_move _ _ rfl ⟨rfl, hw⟩)
    · exact fun w9 hw => gw rfl (g_igeq 2 _ _ .i64 _ _ true rfl rfl (decide_eq_true (by omega)) ⟨rfl, hw⟩)
    · exact fun w9 hw => gw rfl (g_pickt _ _ _ _ rfl rfl ⟨rfl, hw⟩)
    · exact fun w9 hw => gw rfl (g_move _ _ rfl ⟨rfl, hw⟩)
    · exact fun w9 hw => gw rfl (g_move _ _ rfl ⟨rfl, hw⟩)
    · exact fun w9 hw => gw rfl (g_move _ _ rfl ⟨rfl, hw⟩)
    · exact fun w9 hw => gw rfl (g_ilss 2 _ _ .i64 _ _ true rfl rfl (decide_eq_true (by omega)) ⟨rfl, hw⟩)
    · exact fun w9 hw => gw rfl (g_pickt _ _ _ _ rfl rfl ⟨rfl, hw⟩)
    · exact fun w9 hw => gw rfl (g_move _ _ rfl ⟨rfl, hw⟩)
    · exact fun w9 hw => gw rfl (g_load_all 24 _ (w13.heap.size) _ 24 _ rfl (b_p.below hw b_p.lt) Try.underlying24 rfl (sz24 0) ⟨rfl, hw⟩)
    · exact fun w9 hw => gw rfl (g_call 17 _ _ [.int .i64 (0)] (kf17 _ _) rfl (mono_val hw (of_any 0 w9 (by unfold In64; omega))))
    · exact fun w9 hw => gw rfl (g_call 21 _ _ [.agg (nl (U)).toArray, .agg (nl (0)).toArray] (kf21 _ _) rfl (mono_val hw (cmp_any U 0 w9 X hX)))
    · exact fun w9 hw => gw rfl (g_ilss 3 _ _ .i64 _ _ true rfl rfl (decide_eq_true (by omega)) ⟨rfl, hw⟩)
    · exact fun w9 hw => gw rfl (g_field0 _ _ _ rfl ⟨rfl, hw⟩)
    · exact fun w9 hw => gw rfl (g_cell2 _ (w.heap.size) 0 (nl (m)) 24 _ rfl (b_m.below hw b_m.lt) (nl0 _ _ hmh.out) ⟨rfl, hw⟩)
    · exact fun w9 hw => gw rfl (g_ilss 2 _ _ .i64 _ _ true rfl rfl (decide_eq_true (by omega)) ⟨rfl, hw⟩)
    · exact fun w9 hw => gw rfl (g_beql _ _ _ _ rfl rfl ⟨rfl, hw⟩)
    · exact fun w9 hw => gw rfl (g_pickt _ _ _ _ rfl rfl ⟨rfl, hw⟩)
    · exact fun w9 hw => gw rfl (g_assign _ _ rfl ⟨rfl, hw⟩)
  simp only [fullL, Act.put, List.setIfInBounds_toArray, List.set_cons_succ, List.set_cons_zero]
  intro w16 hw
  replace b_m := b_m.below hw b_m.lt
  replace b_q := b_q.below hw b_q.lt
  replace b_s := b_s.below hw b_s.lt
  replace b_p := b_p.below hw b_p.lt
  replace hB := hB.trans (hw.mono hB.size)
  clear hw
  go_wp2_with fail
  go_ret
  exact ⟨rfl, hB⟩

set_option maxRecDepth 10000 in
set_option maxHeartbeats 4000000 in
theorem walk2 (a : Int) (n : Int) (m : Int) (w_a : In64 a) (w_n : In64 n) (w_m : In128 m) (w : World) (h0 : 1 ≤ n) (h1 : n < 9223372036854775808) (Q R M U V X mh : Int) (hQ : Hid (a / n = Q)) (hR : Hid (a % n = R)) (hM : Hid (Q * n = M)) (hU : Hid (m / n = U)) (hV : Hid (m % n = V)) (hX : Hid (cmpI U 0 = X)) (hmh : Hid (m / 18446744073709551616 = mh)) (hm : ¬ m < 0) :
    Calls Try.prog 7 #[.int .i64 a, .int .i64 n, .agg (nl m).toArray] w fun e w' => e = .returned (.bool true) ∧ Below w.heap.size w w' := by
  have r0 : 0 ≤ R ∧ R < n := by
    have e := hR.out
    have e1 := Int.emod_nonneg a (show n ≠ 0 by omega)
    have e2 := Int.emod_lt_of_pos a (show 0 < n by omega)
    omega
  have v0 : 0 ≤ V ∧ V < n := by
    have e := hV.out
    have e1 := Int.emod_nonneg m (show n ≠ 0 by omega)
    have e2 := Int.emod_lt_of_pos m (show 0 < n by omega)
    omega
  have hq : Hid (In64 Q) := by
    show In64 Q
    have e := hQ.out
    rw [← e]
    exact quot_in a n w_a h0
  have hr : Hid (In64 R) := by show In64 R; unfold In64; omega
  have hs : Hid (M + R = a) := by
    show _ = _
    rw [← hM.out, ← hQ.out, ← hR.out, Int.mul_comm]
    exact Int.mul_ediv_add_emod a n
  have u0 : ¬ U < 0 := by
    have e := hU.out
    rw [← e]
    exact quot_pos m n hm h0
  have x0 : ¬ X < 0 := by
    have e := hX.out
    rw [← e]
    unfold cmpI
    repeat' split
    all_goals omega
  have m0 : ¬ mh < 0 := by
    have e := hmh.out
    omega
  go_enter Try.func7, Try.ntmps7
  go_wp2_with (first
    | ((with_reducible refine at_boxD 5 24 ?_); refine L_box 24 _ (nl (m)) rfl ?_; intro w1 t_ b_m; have l_m : w.heap.size ≤ w.heap.size := Nat.le_refl _; have hB : Below w.heap.size w w1 := t_.below (Below.refl _ _) (Nat.le_refl _); clear t_))
  refine (awake_any w1).mono ?_
  rintro e w2 ⟨rfl, t_⟩
  replace b_m := b_m.below t_ b_m.lt
  replace hB := hB.trans (t_.mono hB.size)
  clear t_
  go_wp2_with (first
    | ((with_reducible refine at_binD 20 ?_); refine L_give (by rfl) (g_ilss 2 _ _ .i64 _ _ false rfl rfl (decide_eq_false (by omega)) ?_)))
  refine (of_any a w2 w_a).mono ?_
  rintro e w3 ⟨rfl, t_⟩
  replace b_m := b_m.below t_ b_m.lt
  replace hB := hB.trans (t_.mono hB.size)
  clear t_
  go_wp2_with fail
  refine (div_any a n w3 (In64.to a w_a) h0 h1 Q R hQ hR).mono ?_
  rintro e w4 ⟨rfl, t_⟩
  replace b_m := b_m.below t_ b_m.lt
  replace hB := hB.trans (t_.mono hB.size)
  clear t_
  go_wp2_with (first
    | ((with_reducible refine at_allocD 7 24 ?_); refine L_alloc 24 (nl (0)) zero24 ?_; intro w5 t_ b_q; have l_q : w.heap.size ≤ w4.heap.size := hB.size; have o_q := b_m.lt; replace b_m := t_.blk b_m (by omega); replace hB := t_.below hB l_q; clear t_)
    | ((with_reducible refine at_storeX 7 24 ?_); refine L_store_all 24 _ _ (w4.heap.size) (nl (Q)) _ 24 rfl rfl b_q (sz24 0) (rfl) (one_nl _) ?_; clear b_q; intro w6 t_ b_q; replace b_m := t_.blk b_m (by omega); replace hB := t_.below hB l_q; clear t_)
    | ((with_reducible refine at_loadD 30 24 ?_); refine L_load_all 24 _ (w4.heap.size) (nl (Q)) 24 _ rfl b_q Try.underlying24 rfl (sz24 0) ?_))
  refine (int_ok Q w6 hq.out).mono ?_
  rintro e w7 ⟨rfl, t_⟩
  replace b_m := b_m.below t_ b_m.lt
  replace b_q := b_q.below t_ b_q.lt
  replace hB := hB.trans (t_.mono hB.size)
  clear t_
  go_wp2_with (first
    | ((with_reducible refine at_binD 42 ?_); refine L_give (by rfl) (g_ilss 2 _ _ .i64 _ _ false rfl rfl (decide_eq_false (by omega)) ?_))
    | ((with_reducible refine at_binD 47 ?_); refine L_give (by rfl) (g_igeq 2 _ _ .i64 _ _ false rfl rfl (decide_eq_false (by omega)) ?_)))
  refine (times_l Q n M hM w7 hq.out w_n).mono ?_
  rintro e w8 ⟨rfl, t_⟩
  replace b_m := b_m.below t_ b_m.lt
  replace b_q := b_q.below t_ b_q.lt
  replace hB := hB.trans (t_.mono hB.size)
  clear t_
  go_wp2_with fail
  refine (of_any R w8 hr.out).mono ?_
  rintro e w9 ⟨rfl, t_⟩
  replace b_m := b_m.below t_ b_m.lt
  replace b_q := b_q.below t_ b_q.lt
  replace hB := hB.trans (t_.mono hB.size)
  clear t_
  go_wp2_with fail
  refine (add_l M R a w9 (prod_in Q n M hM hq.out w_n).out (In64.to R hr.out) (In64.to a w_a) hs).mono ?_
  rintro e w10 ⟨rfl, t_⟩
  replace b_m := b_m.below t_ b_m.lt
  replace b_q := b_q.below t_ b_q.lt
  replace hB := hB.trans (t_.mono hB.size)
  clear t_
  go_wp2_with (first
    | ((with_reducible refine at_allocD 12 24 ?_); refine L_alloc 24 (nl (0)) zero24 ?_; intro w11 t_ b_s; have l_s : w.heap.size ≤ w10.heap.size := hB.size; have o_s := b_q.lt; replace b_m := t_.blk b_m (by omega); replace b_q := t_.blk b_q (by omega); replace hB := t_.below hB l_s; clear t_)
    | ((with_reducible refine at_storeX 12 24 ?_); refine L_store_all 24 _ _ (w10.heap.size) (nl (a)) _ 24 rfl rfl b_s (sz24 0) (rfl) (one_nl _) ?_; clear b_s; intro w12 t_ b_s; replace b_m := t_.blk b_m (by omega); replace b_q := t_.blk b_q (by omega); replace hB := t_.below hB l_s; clear t_)
    | ((with_reducible refine at_loadD 59 24 ?_); refine L_load_all 24 _ (w.heap.size) (nl (m)) 24 _ rfl b_m Try.underlying24 rfl (sz24 0) ?_))
  refine (div_any m n w12 w_m h0 h1 U V hU hV).mono ?_
  rintro e w13 ⟨rfl, t_⟩
  replace b_m := b_m.below t_ b_m.lt
  replace b_q := b_q.below t_ b_q.lt
  replace b_s := b_s.below t_ b_s.lt
  replace hB := hB.trans (t_.mono hB.size)
  clear t_
  go_wp2_with (first
    | ((with_reducible refine at_allocD 14 24 ?_); refine L_alloc 24 (nl (0)) zero24 ?_; intro w14 t_ b_p; have l_p : w.heap.size ≤ w13.heap.size := hB.size; have o_p := b_s.lt; replace b_m := t_.blk b_m (by omega); replace b_q := t_.blk b_q (by omega); replace b_s := t_.blk b_s (by omega); replace hB := t_.below hB l_p; clear t_)
    | ((with_reducible refine at_storeX 14 24 ?_); refine L_store_all 24 _ _ (w13.heap.size) (nl (U)) _ 24 rfl rfl b_p (sz24 0) (rfl) (one_nl _) ?_; clear b_p; intro w15 t_ b_p; replace b_m := t_.blk b_m (by omega); replace b_q := t_.blk b_q (by omega); replace b_s := t_.blk b_s (by omega); replace hB := t_.below hB l_p; clear t_)
    | ((with_reducible refine stop_region 11 ?_); intro X1 hX1))
  refine hX1.out ?_
  clear hX1
  refine wp_region_fixed (by kernel_rfl) (by kernel_rfl) [.int .i64 (0), .bool true, .bool true, .agg (nl (a)).toArray, .int .i64 (a), .agg (nl (a)).toArray, .bool true, .bool true, .bool true, .int .i64 (0), .bool true, .bool true, .bool true, .int .i64 (V), .bool true, .bool true, .bool true, .int .i64 (V), .int .i64 (n), .bool true, .bool true, .bool true, .agg (nl (U)).toArray, .agg (nl (0)).toArray, .int .i64 (X), .bool false, .pointer (some ⟨w.heap.size, 0, none⟩), .int .i64 (mh), .bool false, .bool true, .bool true, .bool true] (by rfl) (fun w9 => Below w15.heap.size w15 w9) (Below.refl _ _).drew ?_ ?_
  · simp only [fullL, Act.put, List.setIfInBounds_toArray, List.set_cons_succ, List.set_cons_zero]
    refine ⟨?_, ?_, ?_, ?_, ?_, ?_, ?_, ?_, ?_, ?_, ?_, ?_, ?_, ?_, ?_, ?_, ?_, ?_, ?_, ?_, ?_, ?_, ?_, ?_, ?_, ?_, ?_, ?_, ?_, ?_, ?_, ?_, trivial⟩
    · exact fun w9 hw => gw rfl (g_move _ _ rfl ⟨rfl, hw⟩)
    · exact fun w9 hw => gw rfl (g_ieq 26 _ _ .i64 _ _ true rfl rfl (by decide) ⟨rfl, hw⟩)
    · exact fun w9 hw => gw rfl (g_move _ _ rfl ⟨rfl, hw⟩)
    · exact fun w9 hw => gw rfl (g_load_all 24 _ (w10.heap.size) _ 24 _ rfl (b_s.below hw b_s.lt) Try.underlying24 rfl (sz24 0) ⟨rfl, hw⟩)
    · exact fun w9 hw => gw rfl (g_move _ _ rfl ⟨rfl, hw⟩)
    · exact fun w9 hw => gw rfl (g_call 17 _ _ [.int .i64 (a)] (kf17 _ _) rfl (mono_val hw (of_any a w9 w_a)))
    · exact fun w9 hw => gw rfl (g_eql24 _ _ (a) (a) true rfl rfl (decide_eq_true rfl) ⟨rfl, hw⟩)
    · exact fun w9 hw => gw rfl (g_pickt _ _ _ _ rfl rfl ⟨rfl, hw⟩)
    · exact fun w9 hw => gw rfl (g_move _ _ rfl ⟨rfl, hw⟩)
    · exact fun w9 hw => gw rfl (g_move _ _ rfl ⟨rfl, hw⟩)
    · exact fun w9 hw => gw rfl (g_ieq 26 _ _ .i64 _ _ true rfl rfl (by decide) ⟨rfl, hw⟩)
    · exact fun w9 hw => gw rfl (g_pickt _ _ _ _ rfl rfl ⟨rfl, hw⟩)
    · exact fun w9 hw => gw rfl (g_move _ _ rfl ⟨rfl, hw⟩)
    · exact fun w9 hw => gw rfl (g_move _ _ rfl ⟨rfl, hw⟩)
    · exact fun w9 hw => gw rfl (g_igeq 2 _ _ .i64 _ _ true rfl rfl (decide_eq_true (by omega)) ⟨rfl, hw⟩)
    · exact fun w9 hw => gw rfl (g_pickt _ _ _ _ rfl rfl ⟨rfl, hw⟩)
    · exact fun w9 hw => gw rfl (g_move _ _ rfl ⟨rfl, hw⟩)
    · exact fun w9 hw => gw rfl (g_move _ _ rfl ⟨rfl, hw⟩)
    · exact fun w9 hw => gw rfl (g_move _ _ rfl ⟨rfl, hw⟩)
    · exact fun w9 hw => gw rfl (g_ilss 2 _ _ .i64 _ _ true rfl rfl (decide_eq_true (by omega)) ⟨rfl, hw⟩)
    · exact fun w9 hw => gw rfl (g_pickt _ _ _ _ rfl rfl ⟨rfl, hw⟩)
    · exact fun w9 hw => gw rfl (g_move _ _ rfl ⟨rfl, hw⟩)
    · exact fun w9 hw => gw rfl (g_load_all 24 _ (w13.heap.size) _ 24 _ rfl (b_p.below hw b_p.lt) Try.underlying24 rfl (sz24 0) ⟨rfl, hw⟩)
    · exact fun w9 hw => gw rfl (g_call 17 _ _ [.int .i64 (0)] (kf17 _ _) rfl (mono_val hw (of_any 0 w9 (by unfold In64; omega))))
    · exact fun w9 hw => gw rfl (g_call 21 _ _ [.agg (nl (U)).toArray, .agg (nl (0)).toArray] (kf21 _ _) rfl (mono_val hw (cmp_any U 0 w9 X hX)))
    · exact fun w9 hw => gw rfl (g_ilss 3 _ _ .i64 _ _ false rfl rfl (decide_eq_false (by omega)) ⟨rfl, hw⟩)
    · exact fun w9 hw => gw rfl (g_field0 _ _ _ rfl ⟨rfl, hw⟩)
    · exact fun w9 hw => gw rfl (g_cell2 _ (w.heap.size) 0 (nl (m)) 24 _ rfl (b_m.below hw b_m.lt) (nl0 _ _ hmh.out) ⟨rfl, hw⟩)
    · exact fun w9 hw => gw rfl (g_ilss 2 _ _ .i64 _ _ false rfl rfl (decide_eq_false (by omega)) ⟨rfl, hw⟩)
    · exact fun w9 hw => gw rfl (g_beql _ _ _ _ rfl rfl ⟨rfl, hw⟩)
    · exact fun w9 hw => gw rfl (g_pickt _ _ _ _ rfl rfl ⟨rfl, hw⟩)
    · exact fun w9 hw => gw rfl (g_assign _ _ rfl ⟨rfl, hw⟩)
  simp only [fullL, Act.put, List.setIfInBounds_toArray, List.set_cons_succ, List.set_cons_zero]
  intro w16 hw
  replace b_m := b_m.below hw b_m.lt
  replace b_q := b_q.below hw b_q.lt
  replace b_s := b_s.below hw b_s.lt
  replace b_p := b_p.below hw b_p.lt
  replace hB := hB.trans (hw.mono hB.size)
  clear hw
  go_wp2_with fail
  go_ret
  exact ⟨rfl, hB⟩

theorem walk (a : Int) (n : Int) (m : Int) (w_a : In64 a) (w_n : In64 n) (w_m : In128 m) (w : World) :
    Calls Try.prog 7 #[.int .i64 a, .int .i64 n, .agg (nl m).toArray] w fun e w' => e = .returned (.bool true) ∧ Below w.heap.size w w' := by
  by_cases h : n < 1
  · exact walk0 a n m w_a w_n w_m w h
  · by_cases hm : m < 0
    · exact walk1 a n m w_a w_n w_m w (by omega) w_n.2 _ _ _ _ _ _ _ rfl rfl rfl rfl rfl rfl rfl hm
    · exact walk2 a n m w_a w_n w_m w (by omega) w_n.2 _ _ _ _ _ _ _ rfl rfl rfl rfl rfl rfl rfl hm

end Go.Proofs.Ytkgcnbmnhbmdiaa.wideBack
