/- The law DriftForward, walked: called with any numbers of its parameters' kinds it returns true, and nothing that was there is changed. -/
import Derived.Test.YtcllmobjdnhmlaaDrM
namespace Go.Proofs.Ytcllmobjdnhmlaa.driftForward
open Go Go.RowKit
set_option linter.unusedVariables false

set_option maxRecDepth 10000 in
set_option maxHeartbeats 4000000 in
theorem walk1 (at_ : Int) (sh_ : Int) (ra_ : Int) (a : Int) (b : Int) (w_at_ : In64 at_) (w_sh_ : In64 sh_) (w_ra_ : In64 ra_) (w_a : 0 ≤ a ∧ a < 4294967296) (w_b : 0 ≤ b ∧ b < 4294967296) (w : World) (A M R t u n m : Int) (e1 : Hid (at_.tmod 1152921504606846976 = A)) (e2 : Hid (sh_.tmod 1152921504606846976 = M)) (e3 : Hid (ra_.tmod 100000001 = R)) (e4 : Hid (IntKind.i64.wrap a = a)) (e5 : Hid (IntKind.i64.wrap (A + a) = t)) (e6 : Hid (IntKind.i64.wrap b = b)) (e7 : Hid (IntKind.i64.wrap (t + b) = u)) (ho : Ok R) (jA : In64 A) (jM : In64 M) (jR : In64 R) (jt : In64 t) (ju : In64 u) (hn : Hid (rd A M R t = (n, 0))) (hm : Hid (rd A M R u = (m, 0))) (h1 : n ≤ m) (h2 : b < 2) :
    Calls Try.prog 5 #[.int .i64 at_, .int .i64 sh_, .int .i64 ra_, .int .u32 a, .int .u32 b] w fun e w' => e = .returned (.bool true) ∧ Below w.heap.size w w' := by
  go_enter Try.func5, Try.ntmps5
  go_wp2_with fail
  refine (awake_any w).mono ?_
  rintro e w1 ⟨rfl, t_⟩
  have hB := t_
  clear t_
  go_wp2_with (first
    | ((with_reducible refine at_binD 22 ?_); refine L_give (by rfl) (g_irem 2 _ _ .i64 _ 1152921504606846976 _ rfl rfl (by decide) e1.out ?_))
    | ((with_reducible refine at_binD 24 ?_); refine L_give (by rfl) (g_irem 2 _ _ .i64 _ 1152921504606846976 _ rfl rfl (by decide) e2.out ?_))
    | ((with_reducible refine at_binD 26 ?_); refine L_give (by rfl) (g_irem 2 _ _ .i64 _ 100000001 _ rfl rfl (by decide) e3.out ?_)))
  refine (new_good A M R w1 ho).mono ?_
  rintro e w2 ⟨rfl, t_⟩
  replace hB := hB.trans (t_.mono hB.size)
  clear t_
  go_wp2_with (first
    | ((with_reducible refine at_allocD 11 23 ?_); refine L_alloc 23 (cl 0 0 0) zeroC ?_; intro w3 t_ b_c; have l_c : w.heap.size ≤ w2.heap.size := hB.size; replace hB := t_.below hB l_c; clear t_)
    | ((with_reducible refine at_storeX 11 23 ?_); refine L_store_all 23 _ _ (w2.heap.size) (cl (A) (M) (R)) _ 23 rfl rfl b_c (szC 0 0 0) (rfl) (one_cl _ _ _) ?_; have b0_c := b_c; clear b_c; intro w4 t_ b_c; replace hB := t_.below hB l_c; clear t_ b0_c)
    | ((with_reducible refine at_loadD 33 2 ?_); refine L_cell2 _ (w2.heap.size) 0 (cl (A) (M) (R)) 23 (.int .i64 (A)) rfl b_c (rfl) ?_)
    | ((with_reducible refine at_cnv 35 ?_); refine L_give (by rfl) (g_cv32 _ _ _ rfl e4.out ?_))
    | ((with_reducible refine at_binD 36 ?_); refine L_give (by rfl) (g_iadd 2 _ _ .i64 _ _ _ rfl rfl e5.out ?_))
    | ((with_reducible refine at_loadD 38 23 ?_); refine L_load_all 23 _ (w2.heap.size) (cl (A) (M) (R)) 23 _ rfl b_c Try.underlying23 rfl (szC 0 0 0) ?_))
  refine (read_any A M R t n 0 w4 jA jM jR jt hn).mono ?_
  rintro e w5 ⟨rfl, t_⟩
  replace b_c := b_c.below t_ b_c.lt
  replace hB := hB.trans (t_.mono hB.size)
  clear t_
  go_wp2_with (first
    | ((with_reducible refine at_loadD 44 23 ?_); refine L_load_all 23 _ (w2.heap.size) (cl (A) (M) (R)) 23 _ rfl b_c Try.underlying23 rfl (szC 0 0 0) ?_)
    | ((with_reducible refine at_cnv 47 ?_); refine L_give (by rfl) (g_cv32 _ _ _ rfl e6.out ?_))
    | ((with_reducible refine at_binD 48 ?_); refine L_give (by rfl) (g_iadd 2 _ _ .i64 _ _ _ rfl rfl e7.out ?_)))
  refine (read_any A M R u m 0 w5 jA jM jR ju hm).mono ?_
  rintro e w6 ⟨rfl, t_⟩
  replace b_c := b_c.below t_ b_c.lt
  replace hB := hB.trans (t_.mono hB.size)
  clear t_
  go_wp2_with (first
    | ((with_reducible refine at_binD 60 ?_); refine L_give (by rfl) (g_igeq 2 _ _ .i64 _ _ true rfl rfl (decide_eq_true h1) ?_))
    | ((with_reducible refine at_binD 63 ?_); refine L_give (by rfl) (g_ilss 38 _ _ .u32 _ _ true rfl rfl (decide_eq_true h2) ?_)))
  go_ret
  exact ⟨rfl, hB⟩

set_option maxRecDepth 10000 in
set_option maxHeartbeats 4000000 in
theorem walk2 (at_ : Int) (sh_ : Int) (ra_ : Int) (a : Int) (b : Int) (w_at_ : In64 at_) (w_sh_ : In64 sh_) (w_ra_ : In64 ra_) (w_a : 0 ≤ a ∧ a < 4294967296) (w_b : 0 ≤ b ∧ b < 4294967296) (w : World) (A M R t u n m : Int) (e1 : Hid (at_.tmod 1152921504606846976 = A)) (e2 : Hid (sh_.tmod 1152921504606846976 = M)) (e3 : Hid (ra_.tmod 100000001 = R)) (e4 : Hid (IntKind.i64.wrap a = a)) (e5 : Hid (IntKind.i64.wrap (A + a) = t)) (e6 : Hid (IntKind.i64.wrap b = b)) (e7 : Hid (IntKind.i64.wrap (t + b) = u)) (ho : Ok R) (jA : In64 A) (jM : In64 M) (jR : In64 R) (jt : In64 t) (ju : In64 u) (hn : Hid (rd A M R t = (n, 0))) (hm : Hid (rd A M R u = (m, 0))) (h1 : n ≤ m) (h2 : ¬ b < 2) (h3 : n < m) :
    Calls Try.prog 5 #[.int .i64 at_, .int .i64 sh_, .int .i64 ra_, .int .u32 a, .int .u32 b] w fun e w' => e = .returned (.bool true) ∧ Below w.heap.size w w' := by
  go_enter Try.func5, Try.ntmps5
  go_wp2_with fail
  refine (awake_any w).mono ?_
  rintro e w1 ⟨rfl, t_⟩
  have hB := t_
  clear t_
  go_wp2_with (first
    | ((with_reducible refine at_binD 22 ?_); refine L_give (by rfl) (g_irem 2 _ _ .i64 _ 1152921504606846976 _ rfl rfl (by decide) e1.out ?_))
    | ((with_reducible refine at_binD 24 ?_); refine L_give (by rfl) (g_irem 2 _ _ .i64 _ 1152921504606846976 _ rfl rfl (by decide) e2.out ?_))
    | ((with_reducible refine at_binD 26 ?_); refine L_give (by rfl) (g_irem 2 _ _ .i64 _ 100000001 _ rfl rfl (by decide) e3.out ?_)))
  refine (new_good A M R w1 ho).mono ?_
  rintro e w2 ⟨rfl, t_⟩
  replace hB := hB.trans (t_.mono hB.size)
  clear t_
  go_wp2_with (first
    | ((with_reducible refine at_allocD 11 23 ?_); refine L_alloc 23 (cl 0 0 0) zeroC ?_; intro w3 t_ b_c; have l_c : w.heap.size ≤ w2.heap.size := hB.size; replace hB := t_.below hB l_c; clear t_)
    | ((with_reducible refine at_storeX 11 23 ?_); refine L_store_all 23 _ _ (w2.heap.size) (cl (A) (M) (R)) _ 23 rfl rfl b_c (szC 0 0 0) (rfl) (one_cl _ _ _) ?_; have b0_c := b_c; clear b_c; intro w4 t_ b_c; replace hB := t_.below hB l_c; clear t_ b0_c)
    | ((with_reducible refine at_loadD 33 2 ?_); refine L_cell2 _ (w2.heap.size) 0 (cl (A) (M) (R)) 23 (.int .i64 (A)) rfl b_c (rfl) ?_)
    | ((with_reducible refine at_cnv 35 ?_); refine L_give (by rfl) (g_cv32 _ _ _ rfl e4.out ?_))
    | ((with_reducible refine at_binD 36 ?_); refine L_give (by rfl) (g_iadd 2 _ _ .i64 _ _ _ rfl rfl e5.out ?_))
    | ((with_reducible refine at_loadD 38 23 ?_); refine L_load_all 23 _ (w2.heap.size) (cl (A) (M) (R)) 23 _ rfl b_c Try.underlying23 rfl (szC 0 0 0) ?_))
  refine (read_any A M R t n 0 w4 jA jM jR jt hn).mono ?_
  rintro e w5 ⟨rfl, t_⟩
  replace b_c := b_c.below t_ b_c.lt
  replace hB := hB.trans (t_.mono hB.size)
  clear t_
  go_wp2_with (first
    | ((with_reducible refine at_loadD 44 23 ?_); refine L_load_all 23 _ (w2.heap.size) (cl (A) (M) (R)) 23 _ rfl b_c Try.underlying23 rfl (szC 0 0 0) ?_)
    | ((with_reducible refine at_cnv 47 ?_); refine L_give (by rfl) (g_cv32 _ _ _ rfl e6.out ?_))
    | ((with_reducible refine at_binD 48 ?_); refine L_give (by rfl) (g_iadd 2 _ _ .i64 _ _ _ rfl rfl e7.out ?_)))
  refine (read_any A M R u m 0 w5 jA jM jR ju hm).mono ?_
  rintro e w6 ⟨rfl, t_⟩
  replace b_c := b_c.below t_ b_c.lt
  replace hB := hB.trans (t_.mono hB.size)
  clear t_
  go_wp2_with (first
    | ((with_reducible refine at_binD 60 ?_); refine L_give (by rfl) (g_igeq 2 _ _ .i64 _ _ true rfl rfl (decide_eq_true h1) ?_))
    | ((with_reducible refine at_binD 63 ?_); refine L_give (by rfl) (g_ilss 38 _ _ .u32 _ _ false rfl rfl (decide_eq_false h2) ?_))
    | ((with_reducible refine at_binD 67 ?_); refine L_give (by rfl) (g_igtr 2 _ _ .i64 _ _ true rfl rfl (decide_eq_true h3) ?_)))
  go_ret
  exact ⟨rfl, hB⟩

theorem walk (at_ : Int) (sh_ : Int) (ra_ : Int) (a : Int) (b : Int) (w_at_ : In64 at_) (w_sh_ : In64 sh_) (w_ra_ : In64 ra_) (w_a : 0 ≤ a ∧ a < 4294967296) (w_b : 0 ≤ b ∧ b < 4294967296) (w : World) :
    Calls Try.prog 5 #[.int .i64 at_, .int .i64 sh_, .int .i64 ra_, .int .u32 a, .int .u32 b] w fun e w' => e = .returned (.bool true) ∧ Below w.heap.size w w' := by
  have hA := tmod_60 at_
  have hM := tmod_60 sh_
  have hR := tmod_8 ra_
  generalize e1 : at_.tmod 1152921504606846976 = A at hA
  generalize e2 : sh_.tmod 1152921504606846976 = M at hM
  generalize e3 : ra_.tmod 100000001 = R at hR
  have p1 := prod_8 a R w_a.1 (by omega) (by omega)
  have p2 := prod_8 b R w_b.1 (by omega) (by omega)
  have p3 : (a + b) * R = a * R + b * R := Int.add_mul a b R
  have hn : rd A M R (A + a) = (M + a + a * R / 1000000000, 0) := rd_ok A M R (A + a) _ (by omega) (by omega) (by rw [show A + a - A = a by omega]) (by unfold In64; omega)
  have hm : rd A M R (A + a + b) = (M + (a + b) + (a + b) * R / 1000000000, 0) := rd_ok A M R (A + a + b) _ (by omega) (by omega) (by rw [show A + a + b - A = a + b by omega]) (by unfold In64; omega)
  have h1 : M + a + a * R / 1000000000 ≤ M + (a + b) + (a + b) * R / 1000000000 := by omega
  have e4 := w64 a (by unfold In64; omega)
  have e5 := w64 (A + a) (by unfold In64; omega)
  have e6 := w64 b (by unfold In64; omega)
  have e7 := w64 (A + a + b) (by unfold In64; omega)
  by_cases h2 : b < 2
  · exact walk1 at_ sh_ ra_ a b w_at_ w_sh_ w_ra_ w_a w_b w A M R _ _ _ _ e1 e2 e3 e4 e5 e6 e7 (by unfold Ok; omega) (by unfold In64; omega) (by unfold In64; omega) (by unfold In64; omega) (by unfold In64; omega) (by unfold In64; omega) hn hm h1 h2
  · exact walk2 at_ sh_ ra_ a b w_at_ w_sh_ w_ra_ w_a w_b w A M R _ _ _ _ e1 e2 e3 e4 e5 e6 e7 (by unfold Ok; omega) (by unfold In64; omega) (by unfold In64; omega) (by unfold In64; omega) (by unfold In64; omega) (by unfold In64; omega) hn hm h1 h2 (by omega)

end Go.Proofs.Ytcllmobjdnhmlaa.driftForward
