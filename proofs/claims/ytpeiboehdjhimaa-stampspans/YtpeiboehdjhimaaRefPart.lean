/- What the reference's Part answers. -/
import Derived.Test.YtpeiboehdjhimaaRefDiv
namespace Go.Proofs.Ytpeiboehdjhimaa
open Go Go.RowKit
set_option linter.unusedVariables false
theorem rdiv_l (u v : Value) (y z Q M : Int) (w : World) (hu : RN w u y) (hv : RN w v z) (fy : Few y 200) (fz : Few z 200) (hz : 0 < z) (hQ : Hid (y / z = Q)) (hM : Hid (y % z = M)) :
    Calls Try.prog 45 #[u, v] w fun e w' => ∃ u v, e = .returned (.tuple #[u, v]) ∧ RN w' u Q ∧ RN w' v M ∧ Below w.heap.size w w' := by
  have h := rdiv_any u v y z w hu hv fy fz hz
  rwa [hQ.out, hM.out] at h
theorem quotM (m n : Int) (hm : -170141183460469231731687303715884105728 ≤ m ∧ m < 170141183460469231731687303715884105728) (h0 : 1 ≤ n) : In128 (m / n) := by
  unfold In128
  constructor
  · refine Int.le_ediv_of_mul_le (by omega) ?_
    have : -170141183460469231731687303715884105728 * n ≤ -170141183460469231731687303715884105728 * 1 := Int.mul_le_mul_of_nonpos_left (by omega) h0
    omega
  · refine Int.ediv_lt_of_lt_mul (by omega) ?_
    have : 170141183460469231731687303715884105728 * 1 ≤ 170141183460469231731687303715884105728 * n := Int.mul_le_mul_of_nonneg_left h0 (by omega)
    omega

set_option maxRecDepth 10000 in
set_option maxHeartbeats 4000000 in
theorem rpart_bad (a b n : Int) (w : World) (hn : n < 1) :
    Calls Try.prog 26 #[.int .i64 a, .int .i64 b, .int .i64 n] w fun e w' => e = .returned (.tuple #[.int .i64 0, .int .i64 1]) ∧ Below w.heap.size w w' := by
  go_enter Try.func26, Try.ntmps26
  go_wp2_with (first
    | ((with_reducible refine at_binD 13 ?_); refine L_give (by rfl) (g_ilss 2 _ _ .i64 _ _ true rfl rfl (decide_eq_true hn) ?_)))
  go_ret2
  exact ⟨rfl, Below.refl _ _⟩

set_option maxRecDepth 10000 in
set_option maxHeartbeats 4000000 in
theorem rpart_ok (a b n M Q R L : Int) (w : World) (ha : In64 a) (hb : In64 b) (hn : In64 n) (h0 : 1 ≤ n) (hM : Hid (a * b = M)) (hQ : Hid (M / n = Q)) (hR : Hid (M % n = R)) (hL : Hid (Q % 18446744073709551616 = L)) (hq : In64 Q) :
    Calls Try.prog 26 #[.int .i64 a, .int .i64 b, .int .i64 n] w fun e w' => e = .returned (.tuple #[.int .i64 Q, .int .i64 0]) ∧ Below w.heap.size w w' := by
  have hMb := prod_bound a b ha hb
  rw [hM.out] at hMb
  have hQi : Hid (In128 Q) := by show In128 Q; rw [← hQ.out]; exact quotM M n (by omega) h0
  have hfi : Hid (decide (-((2 : Int) ^ 63) ≤ Q ∧ Q < (2 : Int) ^ 63) = true) := decide_eq_true hq
  have fa : Few a 200 := few128 _ (by unfold In64 at ha; omega)
  have fb : Few b 200 := few128 _ (by unfold In64 at hb; omega)
  have fn : Few n 200 := few128 _ (by unfold In64 at hn; omega)
  have fM : Few M 200 := few128 _ (by omega)
  have fQ : Few Q 200 := few128 _ (by have h := hQi.out; unfold In128 at h; omega)
  have hw : IntKind.i64.wrap L = Q := by
    have h := hL.out
    unfold In64 at hq
    rw [IntKind.wrap_i64]; omega
  clear hMb
  go_enter Try.func26, Try.ntmps26
  go_wp2_with (first
    | ((with_reducible refine at_binD 13 ?_); refine L_give (by rfl) (g_ilss 2 _ _ .i64 _ _ false rfl rfl (decide_eq_false (by omega)) ?_)))
  refine (rof_any a w ha).mono ?_
  rintro e w1 ⟨_, rfl, ⟨s_n16, v_n16, rfl, r_n16⟩, t_⟩
  have hB := t_
  clear t_
  go_wp2_with fail
  refine (rof_any b w1 hb).mono ?_
  rintro e w2 ⟨_, rfl, ⟨s_n18, v_n18, rfl, r_n18⟩, t_⟩
  replace r_n16 := r_n16.below t_
  replace hB := hB.trans (t_.mono hB.size)
  clear t_
  go_wp2_with fail
  refine (rtimes_any _ _ a b M w2 ⟨_, _, rfl, r_n16⟩ ⟨_, _, rfl, r_n18⟩ fa fb hM).mono ?_
  rintro e w3 ⟨_, rfl, ⟨s_n19, v_n19, rfl, r_n19⟩, t_⟩
  replace r_n16 := r_n16.below t_
  replace r_n18 := r_n18.below t_
  replace hB := hB.trans (t_.mono hB.size)
  clear t_
  go_wp2_with fail
  refine (rof_any n w3 hn).mono ?_
  rintro e w4 ⟨_, rfl, ⟨s_n21, v_n21, rfl, r_n21⟩, t_⟩
  replace r_n16 := r_n16.below t_
  replace r_n18 := r_n18.below t_
  replace r_n19 := r_n19.below t_
  replace hB := hB.trans (t_.mono hB.size)
  clear t_
  go_wp2_with fail
  refine (rdiv_l _ _ M n Q R w4 ⟨_, _, rfl, r_n19⟩ ⟨_, _, rfl, r_n21⟩ fM fn (by omega) hQ hR).mono ?_
  rintro e w5 ⟨_, _, rfl, ⟨s_n22a, v_n22a, rfl, r_n22a⟩, ⟨s_n22b, v_n22b, rfl, r_n22b⟩, t_⟩
  replace r_n16 := r_n16.below t_
  replace r_n18 := r_n18.below t_
  replace r_n19 := r_n19.below t_
  replace r_n21 := r_n21.below t_
  replace hB := hB.trans (t_.mono hB.size)
  clear t_
  go_wp2_with (first
    | ((with_reducible refine at_allocD 8 32 ?_); refine L_alloc 32 ([.bool false, .slice none 0 0]) zeroR ?_; intro w6 t_ b_q; have l_q : w.heap.size ≤ w5.heap.size := hB.size; replace r_n16 := r_n16.below t_.toBelow; replace r_n18 := r_n18.below t_.toBelow; replace r_n19 := r_n19.below t_.toBelow; replace r_n21 := r_n21.below t_.toBelow; replace r_n22a := r_n22a.below t_.toBelow; replace r_n22b := r_n22b.below t_.toBelow; replace hB := t_.below hB l_q; clear t_)
    | ((with_reducible refine at_allocD 9 32 ?_); refine L_alloc 32 ([.bool false, .slice none 0 0]) zeroR ?_; intro w7 t_ b_m; have l_m : w.heap.size ≤ w6.heap.size := hB.size; have o_m := b_q.lt; replace r_n16 := r_n16.below t_.toBelow; replace r_n18 := r_n18.below t_.toBelow; replace r_n19 := r_n19.below t_.toBelow; replace r_n21 := r_n21.below t_.toBelow; replace r_n22a := r_n22a.below t_.toBelow; replace r_n22b := r_n22b.below t_.toBelow; replace b_q := t_.blk b_q (by omega); replace hB := t_.below hB l_m; clear t_)
    | ((with_reducible refine at_storeX 8 32 ?_); refine L_store_all 32 _ _ (w5.heap.size) ([.bool s_n22a, v_n22a]) _ 32 rfl rfl b_q (szR) (rfl) (one_rc _ _ r_n22a.sl) ?_; have b0_q := b_q; clear b_q; intro w8 t_ b_q; replace r_n16 := r_n16.turn t_ b0_q (by decide); replace r_n18 := r_n18.turn t_ b0_q (by decide); replace r_n19 := r_n19.turn t_ b0_q (by decide); replace r_n21 := r_n21.turn t_ b0_q (by decide); replace r_n22a := r_n22a.turn t_ b0_q (by decide); replace r_n22b := r_n22b.turn t_ b0_q (by decide); replace b_m := t_.blk b_m (by omega); replace hB := t_.below hB l_q; clear t_ b0_q)
    | ((with_reducible refine at_storeX 9 32 ?_); refine L_store_all 32 _ _ (w6.heap.size) ([.bool s_n22b, v_n22b]) _ 32 rfl rfl b_m (szR) (rfl) (one_rc _ _ r_n22b.sl) ?_; have b0_m := b_m; clear b_m; intro w9 t_ b_m; replace r_n16 := r_n16.turn t_ b0_m (by decide); replace r_n18 := r_n18.turn t_ b0_m (by decide); replace r_n19 := r_n19.turn t_ b0_m (by decide); replace r_n21 := r_n21.turn t_ b0_m (by decide); replace r_n22a := r_n22a.turn t_ b0_m (by decide); replace r_n22b := r_n22b.turn t_ b0_m (by decide); replace b_q := t_.blk b_q (by omega); replace hB := t_.below hB l_m; clear t_ b0_m)
    | ((with_reducible refine at_loadD 25 32 ?_); refine L_load_all 32 _ (w5.heap.size) ([.bool s_n22a, v_n22a]) 32 _ rfl b_q Try.underlying32 rfl (szR) ?_))
  refine (fits_any _ Q 63 w9 true ⟨_, _, rfl, r_n22a⟩ fQ hfi).mono ?_
  rintro e w10 ⟨rfl, t_⟩
  replace r_n16 := r_n16.below t_
  replace r_n18 := r_n18.below t_
  replace r_n19 := r_n19.below t_
  replace r_n21 := r_n21.below t_
  replace r_n22a := r_n22a.below t_
  replace r_n22b := r_n22b.below t_
  replace b_q := b_q.below t_ b_q.lt
  replace b_m := b_m.below t_ b_m.lt
  replace hB := hB.trans (t_.mono hB.size)
  clear t_
  go_wp2_with (first
    | ((with_reducible refine at_loadD 29 32 ?_); refine L_load_all 32 _ (w5.heap.size) ([.bool s_n22a, v_n22a]) 32 _ rfl b_q Try.underlying32 rfl (szR) ?_))
  refine (wide_any _ Q _ L w10 ⟨_, _, rfl, r_n22a⟩ hQi.out rfl hL).mono ?_
  rintro e w11 ⟨rfl, t_⟩
  replace r_n16 := r_n16.below t_
  replace r_n18 := r_n18.below t_
  replace r_n19 := r_n19.below t_
  replace r_n21 := r_n21.below t_
  replace r_n22a := r_n22a.below t_
  replace r_n22b := r_n22b.below t_
  replace b_q := b_q.below t_ b_q.lt
  replace b_m := b_m.below t_ b_m.lt
  replace hB := hB.trans (t_.mono hB.size)
  clear t_
  go_wp2_with fail
  go_ret2
  exact ⟨rfl, hB⟩

set_option maxRecDepth 10000 in
set_option maxHeartbeats 4000000 in
theorem rpart_over (a b n M Q R L : Int) (w : World) (ha : In64 a) (hb : In64 b) (hn : In64 n) (h0 : 1 ≤ n) (hM : Hid (a * b = M)) (hQ : Hid (M / n = Q)) (hR : Hid (M % n = R)) (hL : Hid (Q % 18446744073709551616 = L)) (hq : ¬ In64 Q) :
    Calls Try.prog 26 #[.int .i64 a, .int .i64 b, .int .i64 n] w fun e w' => e = .returned (.tuple #[.int .i64 0, .int .i64 6]) ∧ Below w.heap.size w w' := by
  have hMb := prod_bound a b ha hb
  rw [hM.out] at hMb
  have hQi : Hid (In128 Q) := by show In128 Q; rw [← hQ.out]; exact quotM M n (by omega) h0
  have hfi : Hid (decide (-((2 : Int) ^ 63) ≤ Q ∧ Q < (2 : Int) ^ 63) = false) := decide_eq_false hq
  have fa : Few a 200 := few128 _ (by unfold In64 at ha; omega)
  have fb : Few b 200 := few128 _ (by unfold In64 at hb; omega)
  have fn : Few n 200 := few128 _ (by unfold In64 at hn; omega)
  have fM : Few M 200 := few128 _ (by omega)
  have fQ : Few Q 200 := few128 _ (by have h := hQi.out; unfold In128 at h; omega)
  clear hMb
  go_enter Try.func26, Try.ntmps26
  go_wp2_with (first
    | ((with_reducible refine at_binD 13 ?_); refine L_give (by rfl) (g_ilss 2 _ _ .i64 _ _ false rfl rfl (decide_eq_false (by omega)) ?_)))
  refine (rof_any a w ha).mono ?_
  rintro e w1 ⟨_, rfl, ⟨s_n16, v_n16, rfl, r_n16⟩, t_⟩
  have hB := t_
  clear t_
  go_wp2_with fail
  refine (rof_any b w1 hb).mono ?_
  rintro e w2 ⟨_, rfl, ⟨s_n18, v_n18, rfl, r_n18⟩, t_⟩
  replace r_n16 := r_n16.below t_
  replace hB := hB.trans (t_.mono hB.size)
  clear t_
  go_wp2_with fail
  refine (rtimes_any _ _ a b M w2 ⟨_, _, rfl, r_n16⟩ ⟨_, _, rfl, r_n18⟩ fa fb hM).mono ?_
  rintro e w3 ⟨_, rfl, ⟨s_n19, v_n19, rfl, r_n19⟩, t_⟩
  replace r_n16 := r_n16.below t_
  replace r_n18 := r_n18.below t_
  replace hB := hB.trans (t_.mono hB.size)
  clear t_
  go_wp2_with fail
  refine (rof_any n w3 hn).mono ?_
  rintro e w4 ⟨_, rfl, ⟨s_n21, v_n21, rfl, r_n21⟩, t_⟩
  replace r_n16 := r_n16.below t_
  replace r_n18 := r_n18.below t_
  replace r_n19 := r_n19.below t_
  replace hB := hB.trans (t_.mono hB.size)
  clear t_
  go_wp2_with fail
  refine (rdiv_l _ _ M n Q R w4 ⟨_, _, rfl, r_n19⟩ ⟨_, _, rfl, r_n21⟩ fM fn (by omega) hQ hR).mono ?_
  rintro e w5 ⟨_, _, rfl, ⟨s_n22a, v_n22a, rfl, r_n22a⟩, ⟨s_n22b, v_n22b, rfl, r_n22b⟩, t_⟩
  replace r_n16 := r_n16.below t_
  replace r_n18 := r_n18.below t_
  replace r_n19 := r_n19.below t_
  replace r_n21 := r_n21.below t_
  replace hB := hB.trans (t_.mono hB.size)
  clear t_
  go_wp2_with (first
    | ((with_reducible refine at_allocD 8 32 ?_); refine L_alloc 32 ([.bool false, .slice none 0 0]) zeroR ?_; intro w6 t_ b_q; have l_q : w.heap.size ≤ w5.heap.size := hB.size; replace r_n16 := r_n16.below t_.toBelow; replace r_n18 := r_n18.below t_.toBelow; replace r_n19 := r_n19.below t_.toBelow; replace r_n21 := r_n21.below t_.toBelow; replace r_n22a := r_n22a.below t_.toBelow; replace r_n22b := r_n22b.below t_.toBelow; replace hB := t_.below hB l_q; clear t_)
    | ((with_reducible refine at_allocD 9 32 ?_); refine L_alloc 32 ([.bool false, .slice none 0 0]) zeroR ?_; intro w7 t_ b_m; have l_m : w.heap.size ≤ w6.heap.size := hB.size; have o_m := b_q.lt; replace r_n16 := r_n16.below t_.toBelow; replace r_n18 := r_n18.below t_.toBelow; replace r_n19 := r_n19.below t_.toBelow; replace r_n21 := r_n21.below t_.toBelow; replace r_n22a := r_n22a.below t_.toBelow; replace r_n22b := r_n22b.below t_.toBelow; replace b_q := t_.blk b_q (by omega); replace hB := t_.below hB l_m; clear t_)
    | ((with_reducible refine at_storeX 8 32 ?_); refine L_store_all 32 _ _ (w5.heap.size) ([.bool s_n22a, v_n22a]) _ 32 rfl rfl b_q (szR) (rfl) (one_rc _ _ r_n22a.sl) ?_; have b0_q := b_q; clear b_q; intro w8 t_ b_q; replace r_n16 := r_n16.turn t_ b0_q (by decide); replace r_n18 := r_n18.turn t_ b0_q (by decide); replace r_n19 := r_n19.turn t_ b0_q (by decide); replace r_n21 := r_n21.turn t_ b0_q (by decide); replace r_n22a := r_n22a.turn t_ b0_q (by decide); replace r_n22b := r_n22b.turn t_ b0_q (by decide); replace b_m := t_.blk b_m (by omega); replace hB := t_.below hB l_q; clear t_ b0_q)
    | ((with_reducible refine at_storeX 9 32 ?_); refine L_store_all 32 _ _ (w6.heap.size) ([.bool s_n22b, v_n22b]) _ 32 rfl rfl b_m (szR) (rfl) (one_rc _ _ r_n22b.sl) ?_; have b0_m := b_m; clear b_m; intro w9 t_ b_m; replace r_n16 := r_n16.turn t_ b0_m (by decide); replace r_n18 := r_n18.turn t_ b0_m (by decide); replace r_n19 := r_n19.turn t_ b0_m (by decide); replace r_n21 := r_n21.turn t_ b0_m (by decide); replace r_n22a := r_n22a.turn t_ b0_m (by decide); replace r_n22b := r_n22b.turn t_ b0_m (by decide); replace b_q := t_.blk b_q (by omega); replace hB := t_.below hB l_m; clear t_ b0_m)
    | ((with_reducible refine at_loadD 25 32 ?_); refine L_load_all 32 _ (w5.heap.size) ([.bool s_n22a, v_n22a]) 32 _ rfl b_q Try.underlying32 rfl (szR) ?_))
  refine (fits_any _ Q 63 w9 false ⟨_, _, rfl, r_n22a⟩ fQ hfi).mono ?_
  rintro e w10 ⟨rfl, t_⟩
  replace r_n16 := r_n16.below t_
  replace r_n18 := r_n18.below t_
  replace r_n19 := r_n19.below t_
  replace r_n21 := r_n21.below t_
  replace r_n22a := r_n22a.below t_
  replace r_n22b := r_n22b.below t_
  replace b_q := b_q.below t_ b_q.lt
  replace b_m := b_m.below t_ b_m.lt
  replace hB := hB.trans (t_.mono hB.size)
  clear t_
  go_wp2_with fail
  go_ret2
  exact ⟨rfl, hB⟩

end Go.Proofs.Ytpeiboehdjhimaa
