/- WideSteps: the walk. -/
import Derived.Test.YtkgcnbmnhbmdiaaWide6
namespace Go.Proofs.Ytkgcnbmnhbmdiaa.wideSteps
open Go Go.RowKit
set_option linter.unusedVariables false
theorem quot128 (a n : Int) (ha : In128 a) (h0 : 1 ≤ n) : In128 (a / n) := by
  unfold In128 at *
  constructor
  · refine Int.le_ediv_of_mul_le (by omega) ?_
    have : -170141183460469231731687303715884105728 * n ≤ -170141183460469231731687303715884105728 * 1 := Int.mul_le_mul_of_nonpos_left (by omega) h0
    omega
  · refine Int.ediv_lt_of_lt_mul (by omega) ?_
    have : 170141183460469231731687303715884105728 * 1 ≤ 170141183460469231731687303715884105728 * n := Int.mul_le_mul_of_nonneg_left h0 (by omega)
    omega
theorem prod31 (x y : Int) (hx : 1 ≤ x) (hx2 : x ≤ 2147483648) (hy : 1 ≤ y) (hy2 : y ≤ 2147483648) : 1 ≤ x * y ∧ x * y ≤ 4611686018427387904 := by
  constructor
  · have : 1 * 1 ≤ x * y := Int.mul_le_mul hx hy (by omega) (by omega)
    omega
  · have : x * y ≤ 2147483648 * 2147483648 := Int.mul_le_mul hx2 hy2 (by omega) (by omega)
    omega

set_option maxRecDepth 10000 in
set_option maxHeartbeats 4000000 in
theorem walk1 (a : Int) (b : Int) (c : Int) (w_a : In128 a) (w_b : 0 ≤ b ∧ b < 4294967296) (w_c : 0 ≤ c ∧ c < 4294967296) (w : World) (b1 c1 x y n Q R U V X : Int) (e1 : b.tmod 2147483648 = b1) (e2 : c.tmod 2147483648 = c1) (e3 : IntKind.i64.wrap b1 = b1) (e4 : IntKind.i64.wrap c1 = c1) (e5 : IntKind.i64.wrap (b1 + 1) = x) (e6 : IntKind.i64.wrap (c1 + 1) = y) (e7 : IntKind.i64.wrap (x * y) = n)
    (x0 : 1 ≤ x) (x1 : x ≤ 2147483648) (y0 : 1 ≤ y) (y1 : y ≤ 2147483648) (n0 : 1 ≤ n) (n1 : n ≤ 4611686018427387904)
    (hQ : Hid (a / x = Q)) (hR : Hid (a % x = R)) (hq : Hid (In128 Q)) (hU : Hid (Q / y = U)) (hV : Hid (Q % y = V)) (hn2 : Hid (a / n = U)) (hX : Hid (a % n = X)) :
    Calls Try.prog 10 #[.agg (nl a).toArray, .int .u32 b, .int .u32 c] w fun e w' => e = .returned (.bool true) ∧ Below w.heap.size w w' := by
  go_enter Try.func10, Try.ntmps10
  go_wp2_with (first
    | ((with_reducible refine at_boxD 3 24 ?_); refine L_box 24 _ (nl (a)) rfl ?_; intro w1 t_ b_a; have l_a : w.heap.size ≤ w.heap.size := Nat.le_refl _; have hB : Below w.heap.size w w1 := t_.below (Below.refl _ _) (Nat.le_refl _); clear t_))
  refine (awake_any w1).mono ?_
  rintro e w2 ⟨rfl, t_⟩
  replace b_a := b_a.below t_ b_a.lt
  replace hB := hB.trans (t_.mono hB.size)
  clear t_
  go_wp2_with (first
    | ((with_reducible refine at_loadD 29 24 ?_); refine L_load_all 24 _ (w.heap.size) (nl (a)) 24 _ rfl b_a Try.underlying24 rfl (sz24 0) ?_))
  refine (div_any a x w2 w_a x0 (by omega) Q R hQ hR).mono ?_
  rintro e w3 ⟨rfl, t_⟩
  replace b_a := b_a.below t_ b_a.lt
  replace hB := hB.trans (t_.mono hB.size)
  clear t_
  go_wp2_with (first
    | ((with_reducible refine at_allocD 9 24 ?_); refine L_alloc 24 (nl (0)) zero24 ?_; intro w4 t_ b_q; have l_q : w.heap.size ≤ w3.heap.size := hB.size; have o_q := b_a.lt; replace b_a := t_.blk b_a (by omega); replace hB := t_.below hB l_q; clear t_)
    | ((with_reducible refine at_storeX 9 24 ?_); refine L_store_all 24 _ _ (w3.heap.size) (nl (Q)) _ 24 rfl rfl b_q (sz24 0) (rfl) (one_nl _) ?_; clear b_q; intro w5 t_ b_q; replace b_a := t_.blk b_a (by omega); replace hB := t_.below hB l_q; clear t_)
    | ((with_reducible refine at_loadD 36 24 ?_); refine L_load_all 24 _ (w3.heap.size) (nl (Q)) 24 _ rfl b_q Try.underlying24 rfl (sz24 0) ?_))
  refine (div_any Q y w5 hq.out y0 (by omega) U V hU hV).mono ?_
  rintro e w6 ⟨rfl, t_⟩
  replace b_a := b_a.below t_ b_a.lt
  replace b_q := b_q.below t_ b_q.lt
  replace hB := hB.trans (t_.mono hB.size)
  clear t_
  go_wp2_with (first
    | ((with_reducible refine at_allocD 12 24 ?_); refine L_alloc 24 (nl (0)) zero24 ?_; intro w7 t_ b_p; have l_p : w.heap.size ≤ w6.heap.size := hB.size; have o_p := b_q.lt; replace b_a := t_.blk b_a (by omega); replace b_q := t_.blk b_q (by omega); replace hB := t_.below hB l_p; clear t_)
    | ((with_reducible refine at_storeX 12 24 ?_); refine L_store_all 24 _ _ (w6.heap.size) (nl (U)) _ 24 rfl rfl b_p (sz24 0) (rfl) (one_nl _) ?_; clear b_p; intro w8 t_ b_p; replace b_a := t_.blk b_a (by omega); replace b_q := t_.blk b_q (by omega); replace hB := t_.below hB l_p; clear t_)
    | ((with_reducible refine at_loadD 43 24 ?_); refine L_load_all 24 _ (w.heap.size) (nl (a)) 24 _ rfl b_a Try.underlying24 rfl (sz24 0) ?_))
  refine (div_any a n w8 w_a n0 (by omega) U X hn2 hX).mono ?_
  rintro e w9 ⟨rfl, t_⟩
  replace b_a := b_a.below t_ b_a.lt
  replace b_q := b_q.below t_ b_q.lt
  replace b_p := b_p.below t_ b_p.lt
  replace hB := hB.trans (t_.mono hB.size)
  clear t_
  go_wp2_with (first
    | ((with_reducible refine at_allocD 15 24 ?_); refine L_alloc 24 (nl (0)) zero24 ?_; intro w10 t_ b_o; have l_o : w.heap.size ≤ w9.heap.size := hB.size; have o_o := b_p.lt; replace b_a := t_.blk b_a (by omega); replace b_q := t_.blk b_q (by omega); replace b_p := t_.blk b_p (by omega); replace hB := t_.below hB l_o; clear t_)
    | ((with_reducible refine at_storeX 15 24 ?_); refine L_store_all 24 _ _ (w9.heap.size) (nl (U)) _ 24 rfl rfl b_o (sz24 0) (rfl) (one_nl _) ?_; clear b_o; intro w11 t_ b_o; replace b_a := t_.blk b_a (by omega); replace b_q := t_.blk b_q (by omega); replace b_p := t_.blk b_p (by omega); replace hB := t_.below hB l_o; clear t_)
    | ((with_reducible refine at_loadDG 62 ?_); refine L_give (by rfl) (g_load_all 24 _ (w6.heap.size) (nl (U)) 24 _ rfl b_p Try.underlying24 rfl (sz24 0) ?_))
    | ((with_reducible refine at_loadDG 63 ?_); refine L_give (by rfl) (g_load_all 24 _ (w9.heap.size) (nl (U)) 24 _ rfl b_o Try.underlying24 rfl (sz24 0) ?_))
    | ((with_reducible refine at_binD 64 ?_); refine L_give (by rfl) (g_eql24 _ _ (U) (U) true rfl rfl (decide_eq_true rfl) ?_)))
  go_ret
  exact ⟨rfl, hB⟩

theorem walk (a : Int) (b : Int) (c : Int) (w_a : In128 a) (w_b : 0 ≤ b ∧ b < 4294967296) (w_c : 0 ≤ c ∧ c < 4294967296) (w : World) :
    Calls Try.prog 10 #[.agg (nl a).toArray, .int .u32 b, .int .u32 c] w fun e w' => e = .returned (.bool true) ∧ Below w.heap.size w w' := by
  obtain ⟨b1, hb1⟩ : ∃ b1, b.tmod 2147483648 = b1 := ⟨_, rfl⟩
  obtain ⟨c1, hc1⟩ : ∃ c1, c.tmod 2147483648 = c1 := ⟨_, rfl⟩
  have hb2 : 0 ≤ b1 ∧ b1 < 2147483648 := by rw [← hb1, Int.tmod_eq_emod_of_nonneg (by omega)]; omega
  have hc2 : 0 ≤ c1 ∧ c1 < 2147483648 := by rw [← hc1, Int.tmod_eq_emod_of_nonneg (by omega)]; omega
  have hp := prod31 (b1 + 1) (c1 + 1) (by omega) (by omega) (by omega) (by omega)
  refine walk1 a b c w_a w_b w_c w b1 c1 (b1 + 1) (c1 + 1) ((b1 + 1) * (c1 + 1)) (a / (b1 + 1)) _ (a / (b1 + 1) / (c1 + 1)) _ _ hb1 hc1 (by rw [IntKind.wrap_i64]; omega) (by rw [IntKind.wrap_i64]; omega) (by rw [IntKind.wrap_i64]; omega) (by rw [IntKind.wrap_i64]; omega) ?_
    (by omega) (by omega) (by omega) (by omega) hp.1 hp.2 rfl rfl (quot128 a _ w_a (by omega)) rfl rfl ?_ rfl
  · generalize (b1 + 1) * (c1 + 1) = n at hp ⊢
    rw [IntKind.wrap_i64]; omega
  · exact (Int.ediv_ediv_of_nonneg (by omega)).symm

end Go.Proofs.Ytkgcnbmnhbmdiaa.wideSteps
