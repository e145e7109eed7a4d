/- The law DriftMade, walked: called with any numbers of its parameters' kinds it returns true, and nothing that was there is changed. -/
import Derived.Test.YtcllmobjdnhmlaaDrM
namespace Go.Proofs.Ytcllmobjdnhmlaa.driftMade
open Go Go.RowKit
set_option linter.unusedVariables false

set_option maxRecDepth 10000 in
set_option maxHeartbeats 4000000 in
theorem walk1 (t : Int) (m : Int) (q : Int) (w_t : In64 t) (w_m : In64 m) (w_q : In64 q) (w : World) (ho : ¬ Ok q) (hq : q < -100000000) :
    Calls Try.prog 4 #[.int .i64 t, .int .i64 m, .int .i64 q] w fun e w' => e = .returned (.bool true) ∧ Below w.heap.size w w' := by
  go_enter Try.func4, Try.ntmps4
  go_wp2_with fail
  refine (awake_any w).mono ?_
  rintro e w1 ⟨rfl, t_⟩
  have hB := t_
  clear t_
  go_wp2_with fail
  refine (new_bad t m q w1 ho).mono ?_
  rintro e w2 ⟨rfl, t_⟩
  replace hB := hB.trans (t_.mono hB.size)
  clear t_
  go_wp2_with (first
    | ((with_reducible refine at_allocD 7 23 ?_); refine L_alloc 23 (cl 0 0 0) zeroC ?_; intro w3 t_ b_c; have l_c : w.heap.size ≤ w2.heap.size := hB.size; replace hB := t_.below hB l_c; clear t_)
    | ((with_reducible refine at_storeX 7 23 ?_); refine L_store_all 23 _ _ (w2.heap.size) (cl (0) (0) (0)) _ 23 rfl rfl b_c (szC 0 0 0) (rfl) (one_cl _ _ _) ?_; have b0_c := b_c; clear b_c; intro w4 t_ b_c; replace hB := t_.below hB l_c; clear t_ b0_c)
    | ((with_reducible refine at_binD 21 ?_); refine L_give (by rfl) (g_ilss 2 _ _ .i64 _ _ true rfl rfl (decide_eq_true hq) ?_))
    | ((with_reducible refine at_loadDG 29 ?_); refine L_give (by rfl) (g_load_all 23 _ (w2.heap.size) (cl (0) (0) (0)) 23 _ rfl b_c Try.underlying23 rfl (szC 0 0 0) ?_))
    | ((with_reducible refine at_bld 30 ?_); refine L_give (by rfl) (g_bldC0 ?_))
    | ((with_reducible refine at_binD 31 ?_); refine L_give (by rfl) (g_eqlC _ _ (0) (0) (0) (0) (0) (0) true rfl rfl (decide_eq_true ⟨rfl, rfl, rfl⟩) ?_)))
  go_ret
  exact ⟨rfl, hB⟩

set_option maxRecDepth 10000 in
set_option maxHeartbeats 4000000 in
theorem walk2 (t : Int) (m : Int) (q : Int) (w_t : In64 t) (w_m : In64 m) (w_q : In64 q) (w : World) (ho : ¬ Ok q) (hq : ¬ q < -100000000) (hq2 : 100000000 < q) :
    Calls Try.prog 4 #[.int .i64 t, .int .i64 m, .int .i64 q] w fun e w' => e = .returned (.bool true) ∧ Below w.heap.size w w' := by
  go_enter Try.func4, Try.ntmps4
  go_wp2_with fail
  refine (awake_any w).mono ?_
  rintro e w1 ⟨rfl, t_⟩
  have hB := t_
  clear t_
  go_wp2_with fail
  refine (new_bad t m q w1 ho).mono ?_
  rintro e w2 ⟨rfl, t_⟩
  replace hB := hB.trans (t_.mono hB.size)
  clear t_
  go_wp2_with (first
    | ((with_reducible refine at_allocD 7 23 ?_); refine L_alloc 23 (cl 0 0 0) zeroC ?_; intro w3 t_ b_c; have l_c : w.heap.size ≤ w2.heap.size := hB.size; replace hB := t_.below hB l_c; clear t_)
    | ((with_reducible refine at_storeX 7 23 ?_); refine L_store_all 23 _ _ (w2.heap.size) (cl (0) (0) (0)) _ 23 rfl rfl b_c (szC 0 0 0) (rfl) (one_cl _ _ _) ?_; have b0_c := b_c; clear b_c; intro w4 t_ b_c; replace hB := t_.below hB l_c; clear t_ b0_c)
    | ((with_reducible refine at_binD 21 ?_); refine L_give (by rfl) (g_ilss 2 _ _ .i64 _ _ false rfl rfl (decide_eq_false hq) ?_))
    | ((with_reducible refine at_binD 24 ?_); refine L_give (by rfl) (g_igtr 2 _ _ .i64 _ _ true rfl rfl (decide_eq_true hq2) ?_))
    | ((with_reducible refine at_loadDG 29 ?_); refine L_give (by rfl) (g_load_all 23 _ (w2.heap.size) (cl (0) (0) (0)) 23 _ rfl b_c Try.underlying23 rfl (szC 0 0 0) ?_))
    | ((with_reducible refine at_bld 30 ?_); refine L_give (by rfl) (g_bldC0 ?_))
    | ((with_reducible refine at_binD 31 ?_); refine L_give (by rfl) (g_eqlC _ _ (0) (0) (0) (0) (0) (0) true rfl rfl (decide_eq_true ⟨rfl, rfl, rfl⟩) ?_)))
  go_ret
  exact ⟨rfl, hB⟩

set_option maxRecDepth 10000 in
set_option maxHeartbeats 4000000 in
theorem walk3 (t : Int) (m : Int) (q : Int) (w_t : In64 t) (w_m : In64 m) (w_q : In64 q) (w : World) (ho : Ok q) (hq : ¬ q < -100000000) (hq2 : ¬ 100000000 < q) (hr : Hid (rd t m q t = (m, 0))) :
    Calls Try.prog 4 #[.int .i64 t, .int .i64 m, .int .i64 q] w fun e w' => e = .returned (.bool true) ∧ Below w.heap.size w w' := by
  go_enter Try.func4, Try.ntmps4
  go_wp2_with fail
  refine (awake_any w).mono ?_
  rintro e w1 ⟨rfl, t_⟩
  have hB := t_
  clear t_
  go_wp2_with fail
  refine (new_good t m q w1 ho).mono ?_
  rintro e w2 ⟨rfl, t_⟩
  replace hB := hB.trans (t_.mono hB.size)
  clear t_
  go_wp2_with (first
    | ((with_reducible refine at_allocD 7 23 ?_); refine L_alloc 23 (cl 0 0 0) zeroC ?_; intro w3 t_ b_c; have l_c : w.heap.size ≤ w2.heap.size := hB.size; replace hB := t_.below hB l_c; clear t_)
    | ((with_reducible refine at_storeX 7 23 ?_); refine L_store_all 23 _ _ (w2.heap.size) (cl (t) (m) (q)) _ 23 rfl rfl b_c (szC 0 0 0) (rfl) (one_cl _ _ _) ?_; have b0_c := b_c; clear b_c; intro w4 t_ b_c; replace hB := t_.below hB l_c; clear t_ b0_c)
    | ((with_reducible refine at_binD 21 ?_); refine L_give (by rfl) (g_ilss 2 _ _ .i64 _ _ false rfl rfl (decide_eq_false hq) ?_))
    | ((with_reducible refine at_binD 24 ?_); refine L_give (by rfl) (g_igtr 2 _ _ .i64 _ _ false rfl rfl (decide_eq_false hq2) ?_))
    | ((with_reducible refine at_loadD 34 23 ?_); refine L_load_all 23 _ (w2.heap.size) (cl (t) (m) (q)) 23 _ rfl b_c Try.underlying23 rfl (szC 0 0 0) ?_))
  refine (read_any t m q t m 0 w4 w_t w_m w_q w_t hr).mono ?_
  rintro e w5 ⟨rfl, t_⟩
  replace b_c := b_c.below t_ b_c.lt
  replace hB := hB.trans (t_.mono hB.size)
  clear t_
  go_wp2_with (first
    | ((with_reducible refine at_loadDG 42 ?_); refine L_give (by rfl) (g_load_all 23 _ (w2.heap.size) (cl (t) (m) (q)) 23 _ rfl b_c Try.underlying23 rfl (szC 0 0 0) ?_))
    | ((with_reducible refine at_bld 46 ?_); refine L_give (by rfl) (g_bldC _ _ _ _ _ _ rfl rfl rfl ?_))
    | ((with_reducible refine at_binD 47 ?_); refine L_give (by rfl) (g_eqlC _ _ (t) (m) (q) (t) (m) (q) true rfl rfl (decide_eq_true ⟨rfl, rfl, rfl⟩) ?_)))
  go_ret
  exact ⟨rfl, hB⟩

theorem walk (t : Int) (m : Int) (q : Int) (w_t : In64 t) (w_m : In64 m) (w_q : In64 q) (w : World) :
    Calls Try.prog 4 #[.int .i64 t, .int .i64 m, .int .i64 q] w fun e w' => e = .returned (.bool true) ∧ Below w.heap.size w w' := by
  by_cases ho : Ok q
  · have h := ho
    unfold Ok at h
    exact walk3 t m q w_t w_m w_q w ho (by omega) (by omega) (rd_ok t m q t m (by omega) (by omega) (by rw [Int.sub_self, Int.zero_mul]; omega) w_m)
  · by_cases h : q < -100000000
    · exact walk1 t m q w_t w_m w_q w ho h
    · exact walk2 t m q w_t w_m w_q w ho h (by unfold Ok at ho; omega)

end Go.Proofs.Ytcllmobjdnhmlaa.driftMade
