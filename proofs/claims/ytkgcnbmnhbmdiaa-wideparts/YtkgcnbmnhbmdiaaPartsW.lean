/- WideParts: the walk. -/
import Derived.Test.YtkgcnbmnhbmdiaaWide6
import Derived.Test.YtkgcnbmnhbmdiaaRefPart
namespace Go.Proofs.Ytkgcnbmnhbmdiaa.wideParts
open Go Go.RowKit
set_option linter.unusedVariables false

set_option maxRecDepth 10000 in
set_option maxHeartbeats 4000000 in
theorem walk_bad (a : Int) (n : Int) (w_a : In128 a) (w_n : In64 n) (w : World) (hn : n < 1) :
    Calls Try.prog 5 #[.agg (nl a).toArray, .int .i64 n] w fun e w' => e = .returned (.bool true) ∧ Below w.heap.size w w' := by
  go_enter Try.func5, Try.ntmps5
  go_wp2_with (first
    | ((with_reducible refine at_boxD 2 24 ?_); refine L_box 24 _ (nl (a)) rfl ?_; intro w1 t_ b_a; have l_a : w.heap.size ≤ w.heap.size := Nat.le_refl _; have hB : Below w.heap.size w w1 := t_.below (Below.refl _ _) (Nat.le_refl _); clear t_))
  refine (awake_any w1).mono ?_
  rintro e w2 ⟨rfl, t_⟩
  replace b_a := b_a.below t_ b_a.lt
  replace hB := hB.trans (t_.mono hB.size)
  clear t_
  go_wp2_with (first
    | ((with_reducible refine at_loadD 15 24 ?_); refine L_load_all 24 _ (w.heap.size) (nl (a)) 24 _ rfl b_a Try.underlying24 rfl (sz24 0) ?_))
  refine (div_bad a n w2 hn).mono ?_
  rintro e w3 ⟨rfl, t_⟩
  replace b_a := b_a.below t_ b_a.lt
  replace hB := hB.trans (t_.mono hB.size)
  clear t_
  go_wp2_with (first
    | ((with_reducible refine at_allocD 5 24 ?_); refine L_alloc 24 (nl (0)) zero24 ?_; intro w4 t_ b_q; have l_q : w.heap.size ≤ w3.heap.size := hB.size; have o_q := b_a.lt; replace b_a := t_.blk b_a (by omega); replace hB := t_.below hB l_q; clear t_)
    | ((with_reducible refine at_storeX 5 24 ?_); refine L_store_all 24 _ _ (w3.heap.size) (nl (0)) _ 24 rfl rfl b_q (sz24 0) (rfl) (one_nl _) ?_; have b0_q := b_q; clear b_q; intro w5 t_ b_q; replace b_a := t_.blk b_a (by omega); replace hB := t_.below hB l_q; clear t_ b0_q)
    | ((with_reducible refine at_binD 22 ?_); refine L_give (by rfl) (g_ilss 2 _ _ .i64 _ _ true rfl rfl (decide_eq_true hn) ?_))
    | ((with_reducible refine at_loadDG 26 ?_); refine L_give (by rfl) (g_load_all 24 _ (w3.heap.size) (nl (0)) 24 _ rfl b_q Try.underlying24 rfl (sz24 0) ?_))
    | ((with_reducible refine at_binD 28 ?_); refine L_give (by rfl) (g_eql24 _ _ (0) (0) true rfl rfl (decide_eq_true rfl) ?_)))
  go_ret
  exact ⟨rfl, hB⟩

set_option maxRecDepth 10000 in
set_option maxHeartbeats 4000000 in
theorem walk_ok (a : Int) (n : Int) (w_a : In128 a) (w_n : In64 n) (w : World) (Q R : Int) (h0 : 1 ≤ n) (hQ : Hid (a / n = Q)) (hR : Hid (a % n = R)) :
    Calls Try.prog 5 #[.agg (nl a).toArray, .int .i64 n] w fun e w' => e = .returned (.bool true) ∧ Below w.heap.size w w' := by
  have r0 : 0 ≤ R ∧ R < 9223372036854775808 := by
    have e := hR.out
    have e1 := Int.emod_nonneg a (show n ≠ 0 by omega)
    have e2 := Int.emod_lt_of_pos a (show 0 < n by omega)
    have e3 := w_n.2
    omega
  have hQi : Hid (In128 Q) := by show In128 Q; rw [← hQ.out]; exact quotM a n w_a h0
  have hRi : Hid (In128 R) := by show In128 R; unfold In128; omega
  have hRl : Hid (R % 18446744073709551616 = R) := by show _ = _; omega
  have hw : IntKind.u64.wrap R = R := by rw [IntKind.wrap_u64]; omega
  have fa : Few a 200 := few128 _ (by have h := w_a; unfold In128 at h; omega)
  have fn : Few n 200 := few128 _ (by have h := w_n; unfold In64 at h; omega)
  have fQ : Few Q 200 := few128 _ (by have h := hQi.out; unfold In128 at h; omega)
  go_enter Try.func5, Try.ntmps5
  go_wp2_with (first
    | ((with_reducible refine at_boxD 2 24 ?_); refine L_box 24 _ (nl (a)) rfl ?_; intro w1 t_ b_a; have l_a : w.heap.size ≤ w.heap.size := Nat.le_refl _; have hB : Below w.heap.size w w1 := t_.below (Below.refl _ _) (Nat.le_refl _); clear t_))
  refine (awake_any w1).mono ?_
  rintro e w2 ⟨rfl, t_⟩
  replace b_a := b_a.below t_ b_a.lt
  replace hB := hB.trans (t_.mono hB.size)
  clear t_
  go_wp2_with (first
    | ((with_reducible refine at_loadD 15 24 ?_); refine L_load_all 24 _ (w.heap.size) (nl (a)) 24 _ rfl b_a Try.underlying24 rfl (sz24 0) ?_))
  refine (div_any a n w2 w_a h0 w_n.2 Q R hQ hR).mono ?_
  rintro e w3 ⟨rfl, t_⟩
  replace b_a := b_a.below t_ b_a.lt
  replace hB := hB.trans (t_.mono hB.size)
  clear t_
  go_wp2_with (first
    | ((with_reducible refine at_allocD 5 24 ?_); refine L_alloc 24 (nl (0)) zero24 ?_; intro w4 t_ b_q; have l_q : w.heap.size ≤ w3.heap.size := hB.size; have o_q := b_a.lt; replace b_a := t_.blk b_a (by omega); replace hB := t_.below hB l_q; clear t_)
    | ((with_reducible refine at_storeX 5 24 ?_); refine L_store_all 24 _ _ (w3.heap.size) (nl (Q)) _ 24 rfl rfl b_q (sz24 0) (rfl) (one_nl _) ?_; have b0_q := b_q; clear b_q; intro w5 t_ b_q; replace b_a := t_.blk b_a (by omega); replace hB := t_.below hB l_q; clear t_ b0_q)
    | ((with_reducible refine at_binD 22 ?_); refine L_give (by rfl) (g_ilss 2 _ _ .i64 _ _ false rfl rfl (decide_eq_false (by omega)) ?_))
    | ((with_reducible refine at_loadD 35 24 ?_); refine L_load_all 24 _ (w.heap.size) (nl (a)) 24 _ rfl b_a Try.underlying24 rfl (sz24 0) ?_))
  refine (ref_any a w5 w_a).mono ?_
  rintro e w6 ⟨_, rfl, ⟨s_n36, v_n36, rfl, r_n36⟩, t_⟩
  replace b_a := b_a.below t_ b_a.lt
  replace b_q := b_q.below t_ b_q.lt
  replace hB := hB.trans (t_.mono hB.size)
  clear t_
  go_wp2_with fail
  refine (rof_any n w6 w_n).mono ?_
  rintro e w7 ⟨_, rfl, ⟨s_n38, v_n38, rfl, r_n38⟩, t_⟩
  replace r_n36 := r_n36.below t_
  replace b_a := b_a.below t_ b_a.lt
  replace b_q := b_q.below t_ b_q.lt
  replace hB := hB.trans (t_.mono hB.size)
  clear t_
  go_wp2_with fail
  refine (rdiv_l _ _ a n Q R w7 ⟨_, _, rfl, r_n36⟩ ⟨_, _, rfl, r_n38⟩ fa fn (by omega) hQ hR).mono ?_
  rintro e w8 ⟨_, _, rfl, ⟨s_n39a, v_n39a, rfl, r_n39a⟩, ⟨s_n39b, v_n39b, rfl, r_n39b⟩, t_⟩
  replace r_n36 := r_n36.below t_
  replace r_n38 := r_n38.below t_
  replace b_a := b_a.below t_ b_a.lt
  replace b_q := b_q.below t_ b_q.lt
  replace hB := hB.trans (t_.mono hB.size)
  clear t_
  go_wp2_with (first
    | ((with_reducible refine at_allocD 8 34 ?_); refine L_alloc 34 ([.bool false, .slice none 0 0]) zero34 ?_; intro w9 t_ b_x; have l_x : w.heap.size ≤ w8.heap.size := hB.size; have o_x := b_q.lt; replace r_n36 := r_n36.below t_.toBelow; replace r_n38 := r_n38.below t_.toBelow; replace r_n39a := r_n39a.below t_.toBelow; replace r_n39b := r_n39b.below t_.toBelow; replace b_a := t_.blk b_a (by omega); replace b_q := t_.blk b_q (by omega); replace hB := t_.below hB l_x; clear t_)
    | ((with_reducible refine at_allocD 9 34 ?_); refine L_alloc 34 ([.bool false, .slice none 0 0]) zero34 ?_; intro w10 t_ b_y; have l_y : w.heap.size ≤ w9.heap.size := hB.size; have o_y := b_x.lt; replace r_n36 := r_n36.below t_.toBelow; replace r_n38 := r_n38.below t_.toBelow; replace r_n39a := r_n39a.below t_.toBelow; replace r_n39b := r_n39b.below t_.toBelow; replace b_a := t_.blk b_a (by omega); replace b_q := t_.blk b_q (by omega); replace b_x := t_.blk b_x (by omega); replace hB := t_.below hB l_y; clear t_)
    | ((with_reducible refine at_storeX 8 34 ?_); refine L_store_all 34 _ _ (w8.heap.size) ([.bool s_n39a, v_n39a]) _ 34 rfl rfl b_x (sz34) (rfl) (one_rc _ _ r_n39a.sl) ?_; have b0_x := b_x; clear b_x; intro w11 t_ b_x; replace r_n36 := r_n36.turn t_ b0_x (by decide); replace r_n38 := r_n38.turn t_ b0_x (by decide); replace r_n39a := r_n39a.turn t_ b0_x (by decide); replace r_n39b := r_n39b.turn t_ b0_x (by decide); replace b_a := t_.blk b_a (by omega); replace b_q := t_.blk b_q (by omega); replace b_y := t_.blk b_y (by omega); replace hB := t_.below hB l_x; clear t_ b0_x)
    | ((with_reducible refine at_storeX 9 34 ?_); refine L_store_all 34 _ _ (w9.heap.size) ([.bool s_n39b, v_n39b]) _ 34 rfl rfl b_y (sz34) (rfl) (one_rc _ _ r_n39b.sl) ?_; have b0_y := b_y; clear b_y; intro w12 t_ b_y; replace r_n36 := r_n36.turn t_ b0_y (by decide); replace r_n38 := r_n38.turn t_ b0_y (by decide); replace r_n39a := r_n39a.turn t_ b0_y (by decide); replace r_n39b := r_n39b.turn t_ b0_y (by decide); replace b_a := t_.blk b_a (by omega); replace b_q := t_.blk b_q (by omega); replace b_x := t_.blk b_x (by omega); replace hB := t_.below hB l_y; clear t_ b0_y)
    | ((with_reducible refine at_loadD 43 34 ?_); refine L_load_all 34 _ (w9.heap.size) ([.bool s_n39b, v_n39b]) 34 _ rfl b_y Try.underlying34 rfl (sz34) ?_))
  refine (wide_any _ R _ R w12 ⟨_, _, rfl, r_n39b⟩ hRi.out rfl hRl).mono ?_
  rintro e w13 ⟨rfl, t_⟩
  replace r_n36 := r_n36.below t_
  replace r_n38 := r_n38.below t_
  replace r_n39a := r_n39a.below t_
  replace r_n39b := r_n39b.below t_
  replace b_a := b_a.below t_ b_a.lt
  replace b_q := b_q.below t_ b_q.lt
  replace b_x := b_x.below t_ b_x.lt
  replace b_y := b_y.below t_ b_y.lt
  replace hB := hB.trans (t_.mono hB.size)
  clear t_
  go_wp2_with (first
    | ((with_reducible refine at_loadD 47 24 ?_); refine L_load_all 24 _ (w3.heap.size) (nl (Q)) 24 _ rfl b_q Try.underlying24 rfl (sz24 0) ?_)
    | ((with_reducible refine at_loadD 49 34 ?_); refine L_load_all 34 _ (w8.heap.size) ([.bool s_n39a, v_n39a]) 34 _ rfl b_x Try.underlying34 rfl (sz34) ?_))
  refine (same_ok _ Q w13 ⟨_, _, rfl, r_n39a⟩ fQ hQi.out).mono ?_
  rintro e w14 ⟨rfl, t_⟩
  replace r_n36 := r_n36.below t_
  replace r_n38 := r_n38.below t_
  replace r_n39a := r_n39a.below t_
  replace r_n39b := r_n39b.below t_
  replace b_a := b_a.below t_ b_a.lt
  replace b_q := b_q.below t_ b_q.lt
  replace b_x := b_x.below t_ b_x.lt
  replace b_y := b_y.below t_ b_y.lt
  replace hB := hB.trans (t_.mono hB.size)
  clear t_
  go_wp2_with fail
  go_ret
  exact ⟨rfl, hB⟩

theorem walk (a : Int) (n : Int) (w_a : In128 a) (w_n : In64 n) (w : World) :
    Calls Try.prog 5 #[.agg (nl a).toArray, .int .i64 n] w fun e w' => e = .returned (.bool true) ∧ Below w.heap.size w w' := by
  by_cases h : n < 1
  · exact walk_bad a n w_a w_n w h
  · exact walk_ok a n w_a w_n w _ _ (by omega) rfl rfl

end Go.Proofs.Ytkgcnbmnhbmdiaa.wideParts
