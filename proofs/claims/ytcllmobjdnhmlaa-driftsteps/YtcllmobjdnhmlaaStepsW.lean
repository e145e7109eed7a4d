/- The law DriftSteps, walked: called with any numbers of its parameters' kinds it returns true, and nothing that was there is changed. -/
import Derived.Test.YtcllmobjdnhmlaaDrM
namespace Go.Proofs.Ytcllmobjdnhmlaa.driftSteps
open Go Go.RowKit
set_option linter.unusedVariables false

set_option maxRecDepth 10000 in
set_option maxHeartbeats 4000000 in
theorem walk1 (at_ : Int) (sh_ : Int) (ra_ : Int) (by_ : Int) (a : Int) (b : Int) (w_at_ : In64 at_) (w_sh_ : In64 sh_) (w_ra_ : In64 ra_) (w_by_ : In64 by_) (w_a : 0 ≤ a ∧ a < 4294967296) (w_b : 0 ≤ b ∧ b < 4294967296) (w : World) (A M R y z t u V X n m : Int) (e1 : Hid (at_.tmod 1152921504606846976 = A)) (e2 : Hid (sh_.tmod 1152921504606846976 = M)) (e3 : Hid (ra_.tmod 100000001 = R)) (e4 : Hid (by_.tmod 1152921504606846976 = y)) (e5 : Hid (IntKind.i64.wrap a = a)) (e6 : Hid (IntKind.i64.wrap (A + a) = t)) (e7 : Hid (IntKind.i64.wrap (-y) = z)) (e8 : Hid (IntKind.i64.wrap b = b)) (e9 : Hid (IntKind.i64.wrap (t + b) = u)) (e10 : Hid (IntKind.i64.wrap (m + y) = n)) (ho : Ok R) (jA : In64 A) (jM : In64 M) (jR : In64 R) (jy : In64 y) (jz : In64 z) (jt : In64 t) (ju : In64 u) (jV : In64 V) (jX : In64 X) (hX : Hid (anw A M R t y R = (t, X, R, 0))) (hZ : Hid (anw t X R t z R = (t, V, R, 0))) (hV : Hid (trn A M R t R = (t, V, R, 0))) (hn : Hid (rd t X R u = (n, 0))) (hm : Hid (rd t V R u = (m, 0))) :
    Calls Try.prog 8 #[.int .i64 at_, .int .i64 sh_, .int .i64 ra_, .int .i64 by_, .int .u32 a, .int .u32 b] w fun e w' => e = .returned (.bool true) ∧ Below w.heap.size w w' := by
  go_enter Try.func8, Try.ntmps8
  (try simp only [List.append_eq, List.cons_append, List.nil_append])
  go_wp2_with fail
  refine (awake_any w).mono ?_
  rintro e w1 ⟨rfl, t_⟩
  have hB := t_
  clear t_
  go_wp2_with (first
    | ((with_reducible refine at_binD 30 ?_); refine L_give (by rfl) (g_irem 2 _ _ .i64 _ 1152921504606846976 _ rfl rfl (by decide) e1.out ?_))
    | ((with_reducible refine at_binD 32 ?_); refine L_give (by rfl) (g_irem 2 _ _ .i64 _ 1152921504606846976 _ rfl rfl (by decide) e2.out ?_))
    | ((with_reducible refine at_binD 34 ?_); refine L_give (by rfl) (g_irem 2 _ _ .i64 _ 100000001 _ rfl rfl (by decide) e3.out ?_)))
  refine (new_good A M R w1 ho).mono ?_
  rintro e w2 ⟨rfl, t_⟩
  replace hB := hB.trans (t_.mono hB.size)
  clear t_
  go_wp2_with (first
    | ((with_reducible refine at_allocD 13 23 ?_); refine L_alloc 23 (cl 0 0 0) zeroC ?_; intro w3 t_ b_c; have l_c : w.heap.size ≤ w2.heap.size := hB.size; replace hB := t_.below hB l_c; clear t_)
    | ((with_reducible refine at_storeX 13 23 ?_); refine L_store_all 23 _ _ (w2.heap.size) (cl (A) (M) (R)) _ 23 rfl rfl b_c (szC 0 0 0) (rfl) (one_cl _ _ _) ?_; have b0_c := b_c; clear b_c; intro w4 t_ b_c; replace hB := t_.below hB l_c; clear t_ b0_c)
    | ((with_reducible refine at_binD 39 ?_); refine L_give (by rfl) (g_irem 2 _ _ .i64 _ 1152921504606846976 _ rfl rfl (by decide) e4.out ?_))
    | ((with_reducible refine at_loadD 41 2 ?_); refine L_cell2 _ (w2.heap.size) 0 (cl (A) (M) (R)) 23 (.int .i64 (A)) rfl b_c (rfl) ?_)
    | ((with_reducible refine at_cnv 43 ?_); refine L_give (by rfl) (g_cv32 _ _ _ rfl e5.out ?_))
    | ((with_reducible refine at_binD 44 ?_); refine L_give (by rfl) (g_iadd 2 _ _ .i64 _ _ _ rfl rfl e6.out ?_))
    | ((with_reducible refine at_loadD 46 23 ?_); refine L_load_all 23 _ (w2.heap.size) (cl (A) (M) (R)) 23 _ rfl b_c Try.underlying23 rfl (szC 0 0 0) ?_))
  refine (step_any A M R t y t X R 0 w4 jA jM jR jt jy hX).mono ?_
  rintro e w5 ⟨rfl, t_⟩
  replace b_c := b_c.below t_ b_c.lt
  replace hB := hB.trans (t_.mono hB.size)
  clear t_
  go_wp2_with (first
    | ((with_reducible refine at_allocD 16 23 ?_); refine L_alloc 23 (cl 0 0 0) zeroC ?_; intro w6 t_ b_s; have l_s : w.heap.size ≤ w5.heap.size := hB.size; have o_s := b_c.lt; replace b_c := t_.blk b_c (by omega); replace hB := t_.below hB l_s; clear t_)
    | ((with_reducible refine at_storeX 16 23 ?_); refine L_store_all 23 _ _ (w5.heap.size) (cl (t) (X) (R)) _ 23 rfl rfl b_s (szC 0 0 0) (rfl) (one_cl _ _ _) ?_; have b0_s := b_s; clear b_s; intro w7 t_ b_s; replace b_c := t_.blk b_c (by omega); replace hB := t_.below hB l_s; clear t_ b0_s)
    | ((with_reducible refine at_loadD 53 23 ?_); refine L_load_all 23 _ (w5.heap.size) (cl (t) (X) (R)) 23 _ rfl b_s Try.underlying23 rfl (szC 0 0 0) ?_)
    | ((with_reducible refine at_unD 56 ?_); refine L_give (by rfl) (g_ineg 2 _ _ _ _ rfl e7.out ?_)))
  refine (step_any t X R t z t V R 0 w7 jt jX jR jt jz hZ).mono ?_
  rintro e w8 ⟨rfl, t_⟩
  replace b_c := b_c.below t_ b_c.lt
  replace b_s := b_s.below t_ b_s.lt
  replace hB := hB.trans (t_.mono hB.size)
  clear t_
  go_wp2_with (first
    | ((with_reducible refine at_allocD 18 23 ?_); refine L_alloc 23 (cl 0 0 0) zeroC ?_; intro w9 t_ b_d; have l_d : w.heap.size ≤ w8.heap.size := hB.size; have o_d := b_s.lt; replace b_c := t_.blk b_c (by omega); replace b_s := t_.blk b_s (by omega); replace hB := t_.below hB l_d; clear t_)
    | ((with_reducible refine at_storeX 18 23 ?_); refine L_store_all 23 _ _ (w8.heap.size) (cl (t) (V) (R)) _ 23 rfl rfl b_d (szC 0 0 0) (rfl) (one_cl _ _ _) ?_; have b0_d := b_d; clear b_d; intro w10 t_ b_d; replace b_c := t_.blk b_c (by omega); replace b_s := t_.blk b_s (by omega); replace hB := t_.below hB l_d; clear t_ b0_d)
    | ((with_reducible refine at_loadD 61 23 ?_); refine L_load_all 23 _ (w2.heap.size) (cl (A) (M) (R)) 23 _ rfl b_c Try.underlying23 rfl (szC 0 0 0) ?_)
    | ((with_reducible refine at_loadD 64 2 ?_); refine L_cell2 _ (w2.heap.size) 2 (cl (A) (M) (R)) 23 (.int .i64 (R)) rfl b_c (rfl) ?_))
  refine (turn_any A M R t R t V R 0 w10 jA jM jR jt jR hV).mono ?_
  rintro e w11 ⟨rfl, t_⟩
  replace b_c := b_c.below t_ b_c.lt
  replace b_s := b_s.below t_ b_s.lt
  replace b_d := b_d.below t_ b_d.lt
  replace hB := hB.trans (t_.mono hB.size)
  clear t_
  go_wp2_with (first
    | ((with_reducible refine at_allocD 20 23 ?_); refine L_alloc 23 (cl 0 0 0) zeroC ?_; intro w12 t_ b_o; have l_o : w.heap.size ≤ w11.heap.size := hB.size; have o_o := b_d.lt; replace b_c := t_.blk b_c (by omega); replace b_s := t_.blk b_s (by omega); replace b_d := t_.blk b_d (by omega); replace hB := t_.below hB l_o; clear t_)
    | ((with_reducible refine at_storeX 20 23 ?_); refine L_store_all 23 _ _ (w11.heap.size) (cl (t) (V) (R)) _ 23 rfl rfl b_o (szC 0 0 0) (rfl) (one_cl _ _ _) ?_; have b0_o := b_o; clear b_o; intro w13 t_ b_o; replace b_c := t_.blk b_c (by omega); replace b_s := t_.blk b_s (by omega); replace b_d := t_.blk b_d (by omega); replace hB := t_.below hB l_o; clear t_ b0_o)
    | ((with_reducible refine at_loadD 69 23 ?_); refine L_load_all 23 _ (w5.heap.size) (cl (t) (X) (R)) 23 _ rfl b_s Try.underlying23 rfl (szC 0 0 0) ?_)
    | ((with_reducible refine at_cnv 72 ?_); refine L_give (by rfl) (g_cv32 _ _ _ rfl e8.out ?_))
    | ((with_reducible refine at_binD 73 ?_); refine L_give (by rfl) (g_iadd 2 _ _ .i64 _ _ _ rfl rfl e9.out ?_)))
  refine (read_any t X R u n 0 w13 jt jX jR ju hn).mono ?_
  rintro e w14 ⟨rfl, t_⟩
  replace b_c := b_c.below t_ b_c.lt
  replace b_s := b_s.below t_ b_s.lt
  replace b_d := b_d.below t_ b_d.lt
  replace b_o := b_o.below t_ b_o.lt
  replace hB := hB.trans (t_.mono hB.size)
  clear t_
  go_wp2_with (first
    | ((with_reducible refine at_loadD 78 23 ?_); refine L_load_all 23 _ (w11.heap.size) (cl (t) (V) (R)) 23 _ rfl b_o Try.underlying23 rfl (szC 0 0 0) ?_)
    | ((with_reducible refine at_cnv 81 ?_); refine L_give (by rfl) (g_cv32 _ _ _ rfl e8.out ?_))
    | ((with_reducible refine at_binD 82 ?_); refine L_give (by rfl) (g_iadd 2 _ _ .i64 _ _ _ rfl rfl e9.out ?_)))
  refine (read_any t V R u m 0 w14 jt jV jR ju hm).mono ?_
  rintro e w15 ⟨rfl, t_⟩
  replace b_c := b_c.below t_ b_c.lt
  replace b_s := b_s.below t_ b_s.lt
  replace b_d := b_d.below t_ b_d.lt
  replace b_o := b_o.below t_ b_o.lt
  replace hB := hB.trans (t_.mono hB.size)
  clear t_
  go_wp2_with (first
    | ((with_reducible refine at_loadDG 109 ?_); refine L_give (by rfl) (g_load_all 23 _ (w8.heap.size) (cl (t) (V) (R)) 23 _ rfl b_d Try.underlying23 rfl (szC 0 0 0) ?_))
    | ((with_reducible refine at_loadDG 110 ?_); refine L_give (by rfl) (g_load_all 23 _ (w11.heap.size) (cl (t) (V) (R)) 23 _ rfl b_o Try.underlying23 rfl (szC 0 0 0) ?_))
    | ((with_reducible refine at_binD 111 ?_); refine L_give (by rfl) (g_eqlC _ _ (t) (V) (R) (t) (V) (R) true rfl rfl (decide_eq_true ⟨rfl, rfl, rfl⟩) ?_))
    | ((with_reducible refine at_binD 117 ?_); refine L_give (by rfl) (g_iadd 2 _ _ .i64 _ _ _ rfl rfl e10.out ?_)))
  go_ret
  exact ⟨rfl, hB⟩

theorem walk (at_ : Int) (sh_ : Int) (ra_ : Int) (by_ : Int) (a : Int) (b : Int) (w_at_ : In64 at_) (w_sh_ : In64 sh_) (w_ra_ : In64 ra_) (w_by_ : In64 by_) (w_a : 0 ≤ a ∧ a < 4294967296) (w_b : 0 ≤ b ∧ b < 4294967296) (w : World) :
    Calls Try.prog 8 #[.int .i64 at_, .int .i64 sh_, .int .i64 ra_, .int .i64 by_, .int .u32 a, .int .u32 b] w fun e w' => e = .returned (.bool true) ∧ Below w.heap.size w w' := by
  have hA := tmod_60 at_
  have hM := tmod_60 sh_
  have hR := tmod_8 ra_
  have hy := tmod_60 by_
  generalize e1 : at_.tmod 1152921504606846976 = A at hA
  generalize e2 : sh_.tmod 1152921504606846976 = M at hM
  generalize e3 : ra_.tmod 100000001 = R at hR
  generalize e4 : by_.tmod 1152921504606846976 = y at hy
  have p1 := prod_8 a R w_a.1 (by omega) (by omega)
  have p2 := prod_8 b R w_b.1 (by omega) (by omega)
  have hV : rd A M R (A + a) = (M + a + a * R / 1000000000, 0) := rd_ok A M R (A + a) _ (by omega) (by omega) (by rw [show A + a - A = a by omega]) (by unfold In64; omega)
  generalize hVV : M + a + a * R / 1000000000 = V at hV
  have bV : -1200000000000000000 ≤ V ∧ V ≤ 1200000000000000000 := by omega
  have hX := anw_ok A M R (A + a) y R V (V + y) hV rfl (by unfold In64; omega)
  have hT := trn_ok A M R (A + a) R V (by omega) hV
  have r0 : rd (A + a) (V + y) R (A + a) = (V + y, 0) := rd_ok _ _ R _ _ (by omega) (by omega) (by rw [Int.sub_self, Int.zero_mul]; omega) (by unfold In64; omega)
  have hZ := anw_ok (A + a) (V + y) R (A + a) (-y) R (V + y) V r0 (by omega) (by unfold In64; omega)
  have hn : rd (A + a) (V + y) R (A + a + b) = (V + y + b + b * R / 1000000000, 0) := rd_ok _ _ R _ _ (by omega) (by omega) (by rw [show A + a + b - (A + a) = b by omega]) (by unfold In64; omega)
  have hm : rd (A + a) V R (A + a + b) = (V + b + b * R / 1000000000, 0) := rd_ok _ _ R _ _ (by omega) (by omega) (by rw [show A + a + b - (A + a) = b by omega]) (by unfold In64; omega)
  refine walk1 at_ sh_ ra_ by_ a b w_at_ w_sh_ w_ra_ w_by_ w_a w_b w A M R y (-y) (A + a) (A + a + b) V (V + y) _ _ e1 e2 e3 e4 (w64 a (by unfold In64; omega)) (w64 _ (by unfold In64; omega)) (w64 _ (by unfold In64; omega)) (w64 b (by unfold In64; omega)) (w64 _ (by unfold In64; omega)) ?_ (by unfold Ok; omega) (by unfold In64; omega) (by unfold In64; omega) (by unfold In64; omega) (by unfold In64; omega) (by unfold In64; omega) (by unfold In64; omega) (by unfold In64; omega) (by unfold In64; omega) (by unfold In64; omega) hX hZ hT hn hm
  show _ = _
  rw [w64 _ (by unfold In64; omega)]
  omega

end Go.Proofs.Ytcllmobjdnhmlaa.driftSteps
