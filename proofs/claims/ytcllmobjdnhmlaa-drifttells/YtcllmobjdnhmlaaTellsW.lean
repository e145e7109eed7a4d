/- The law DriftTells, walked: called with any numbers of its parameters' kinds it returns true, and nothing that was there is changed. -/
import Derived.Test.YtcllmobjdnhmlaaRd3
namespace Go.Proofs.Ytcllmobjdnhmlaa.driftTells
open Go Go.RowKit
set_option linter.unusedVariables false

set_option maxRecDepth 10000 in
set_option maxHeartbeats 4000000 in
theorem walk1 (f s r t b : Int) (w_f : In64 f) (w_s : In64 s) (w_r : In64 r) (w_t : In64 t) (w_b : In64 b) (w : World) (V E F S R G F2 S2 R2 G2 V3 E3 : Int) (h1 : Hid (rd f s r t = (V, E))) (h2 : Hid (trn f s r t b = (F, S, R, G))) (h3 : Hid (anw f s r t b r = (F2, S2, R2, G2))) (h4 : Hid (grw t b = (V3, E3))) :
    Calls Try.prog 3 #[.agg (cl f s r).toArray, .int .i64 t, .int .i64 b] w fun e w' => e = .returned (.bool true) ∧ Below w.heap.size w w' := by
  go_enter Try.func3, Try.ntmps3
  (try simp only [List.append_eq, List.cons_append, List.nil_append])
  go_wp2_with (first
    | ((with_reducible refine at_boxD 3 23 ?_); refine L_box 23 _ (cl (f) (s) (r)) rfl ?_; intro w1 t_ b_c; have l_c : w.heap.size ≤ w.heap.size := Nat.le_refl _; have hB : Below w.heap.size w w1 := t_.below (Below.refl _ _) (Nat.le_refl _); clear t_))
  refine (awake_any w1).mono ?_
  rintro e w2 ⟨rfl, t_⟩
  replace b_c := b_c.below t_ b_c.lt
  replace hB := hB.trans (t_.mono hB.size)
  clear t_
  go_wp2_with (first
    | ((with_reducible refine at_loadD 26 23 ?_); refine L_load_all 23 _ (w.heap.size) (cl (f) (s) (r)) 23 _ rfl b_c Try.underlying23 rfl (szC 0 0 0) ?_)
    | ((with_reducible refine at_allocD 7 25 ?_); refine L_alloc 25 (cl 0 0 0) zeroK ?_; intro w3 t_ b_k; have l_k : w.heap.size ≤ w2.heap.size := hB.size; have o_k := b_c.lt; replace b_c := t_.blk b_c (by omega); replace hB := t_.below hB l_k; clear t_)
    | ((with_reducible refine at_storeX 7 25 ?_); refine L_store_all 25 _ _ (w2.heap.size) (cl (f) (s) (r)) _ 25 rfl rfl b_k (szK 0 0 0) (rfl) (one_cl _ _ _) ?_; have b0_k := b_k; clear b_k; intro w4 t_ b_k; replace b_c := t_.blk b_c (by omega); replace hB := t_.below hB l_k; clear t_ b0_k)
    | ((with_reducible refine at_loadD 28 23 ?_); refine L_load_all 23 _ (w.heap.size) (cl (f) (s) (r)) 23 _ rfl b_c Try.underlying23 rfl (szC 0 0 0) ?_))
  refine (read_any f s r t V E w4 w_f w_s w_r w_t h1).mono ?_
  rintro e w5 ⟨rfl, t_⟩
  replace b_c := b_c.below t_ b_c.lt
  replace b_k := b_k.below t_ b_k.lt
  replace hB := hB.trans (t_.mono hB.size)
  clear t_
  go_wp2_with (first
    | ((with_reducible refine at_loadD 34 25 ?_); refine L_load_all 25 _ (w2.heap.size) (cl (f) (s) (r)) 25 _ rfl b_k Try.underlying25 rfl (szK 0 0 0) ?_))
  refine (rread_any f s r t V E w5 w_f w_s w_r w_t h1).mono ?_
  rintro e w6 ⟨rfl, t_⟩
  replace b_c := b_c.below t_ b_c.lt
  replace b_k := b_k.below t_ b_k.lt
  replace hB := hB.trans (t_.mono hB.size)
  clear t_
  go_wp2_with (first
    | ((with_reducible refine at_loadD 40 23 ?_); refine L_load_all 23 _ (w.heap.size) (cl (f) (s) (r)) 23 _ rfl b_c Try.underlying23 rfl (szC 0 0 0) ?_))
  refine (turn_any f s r t b F S R G w6 w_f w_s w_r w_t w_b h2).mono ?_
  rintro e w7 ⟨rfl, t_⟩
  replace b_c := b_c.below t_ b_c.lt
  replace b_k := b_k.below t_ b_k.lt
  replace hB := hB.trans (t_.mono hB.size)
  clear t_
  go_wp2_with (first
    | ((with_reducible refine at_allocD 12 23 ?_); refine L_alloc 23 (cl 0 0 0) zeroC ?_; intro w8 t_ b_d; have l_d : w.heap.size ≤ w7.heap.size := hB.size; have o_d := b_k.lt; replace b_c := t_.blk b_c (by omega); replace b_k := t_.blk b_k (by omega); replace hB := t_.below hB l_d; clear t_)
    | ((with_reducible refine at_storeX 12 23 ?_); refine L_store_all 23 _ _ (w7.heap.size) (cl (F) (S) (R)) _ 23 rfl rfl b_d (szC 0 0 0) (rfl) (one_cl _ _ _) ?_; have b0_d := b_d; clear b_d; intro w9 t_ b_d; replace b_c := t_.blk b_c (by omega); replace b_k := t_.blk b_k (by omega); replace hB := t_.below hB l_d; clear t_ b0_d)
    | ((with_reducible refine at_loadD 47 25 ?_); refine L_load_all 25 _ (w2.heap.size) (cl (f) (s) (r)) 25 _ rfl b_k Try.underlying25 rfl (szK 0 0 0) ?_))
  refine (rturn_any f s r t b F S R G w9 w_f w_s w_r w_t h2).mono ?_
  rintro e w10 ⟨rfl, t_⟩
  replace b_c := b_c.below t_ b_c.lt
  replace b_k := b_k.below t_ b_k.lt
  replace b_d := b_d.below t_ b_d.lt
  replace hB := hB.trans (t_.mono hB.size)
  clear t_
  go_wp2_with (first
    | ((with_reducible refine at_allocD 14 25 ?_); refine L_alloc 25 (cl 0 0 0) zeroK ?_; intro w11 t_ b_x; have l_x : w.heap.size ≤ w10.heap.size := hB.size; have o_x := b_d.lt; replace b_c := t_.blk b_c (by omega); replace b_k := t_.blk b_k (by omega); replace b_d := t_.blk b_d (by omega); replace hB := t_.below hB l_x; clear t_)
    | ((with_reducible refine at_storeX 14 25 ?_); refine L_store_all 25 _ _ (w10.heap.size) (cl (F) (S) (R)) _ 25 rfl rfl b_x (szK 0 0 0) (rfl) (one_cl _ _ _) ?_; have b0_x := b_x; clear b_x; intro w12 t_ b_x; replace b_c := t_.blk b_c (by omega); replace b_k := t_.blk b_k (by omega); replace b_d := t_.blk b_d (by omega); replace hB := t_.below hB l_x; clear t_ b0_x)
    | ((with_reducible refine at_loadD 54 23 ?_); refine L_load_all 23 _ (w.heap.size) (cl (f) (s) (r)) 23 _ rfl b_c Try.underlying23 rfl (szC 0 0 0) ?_))
  refine (step_any f s r t b F2 S2 R2 G2 w12 w_f w_s w_r w_t w_b h3).mono ?_
  rintro e w13 ⟨rfl, t_⟩
  replace b_c := b_c.below t_ b_c.lt
  replace b_k := b_k.below t_ b_k.lt
  replace b_d := b_d.below t_ b_d.lt
  replace b_x := b_x.below t_ b_x.lt
  replace hB := hB.trans (t_.mono hB.size)
  clear t_
  go_wp2_with (first
    | ((with_reducible refine at_allocD 16 23 ?_); refine L_alloc 23 (cl 0 0 0) zeroC ?_; intro w14 t_ b_s; have l_s : w.heap.size ≤ w13.heap.size := hB.size; have o_s := b_x.lt; replace b_c := t_.blk b_c (by omega); replace b_k := t_.blk b_k (by omega); replace b_d := t_.blk b_d (by omega); replace b_x := t_.blk b_x (by omega); replace hB := t_.below hB l_s; clear t_)
    | ((with_reducible refine at_storeX 16 23 ?_); refine L_store_all 23 _ _ (w13.heap.size) (cl (F2) (S2) (R2)) _ 23 rfl rfl b_s (szC 0 0 0) (rfl) (one_cl _ _ _) ?_; have b0_s := b_s; clear b_s; intro w15 t_ b_s; replace b_c := t_.blk b_c (by omega); replace b_k := t_.blk b_k (by omega); replace b_d := t_.blk b_d (by omega); replace b_x := t_.blk b_x (by omega); replace hB := t_.below hB l_s; clear t_ b0_s)
    | ((with_reducible refine at_loadD 61 25 ?_); refine L_load_all 25 _ (w2.heap.size) (cl (f) (s) (r)) 25 _ rfl b_k Try.underlying25 rfl (szK 0 0 0) ?_))
  refine (rstep_any f s r t b F2 S2 R2 G2 w15 w_f w_s w_r w_t w_b h3).mono ?_
  rintro e w16 ⟨rfl, t_⟩
  replace b_c := b_c.below t_ b_c.lt
  replace b_k := b_k.below t_ b_k.lt
  replace b_d := b_d.below t_ b_d.lt
  replace b_x := b_x.below t_ b_x.lt
  replace b_s := b_s.below t_ b_s.lt
  replace hB := hB.trans (t_.mono hB.size)
  clear t_
  go_wp2_with (first
    | ((with_reducible refine at_allocD 18 25 ?_); refine L_alloc 25 (cl 0 0 0) zeroK ?_; intro w17 t_ b_y; have l_y : w.heap.size ≤ w16.heap.size := hB.size; have o_y := b_s.lt; replace b_c := t_.blk b_c (by omega); replace b_k := t_.blk b_k (by omega); replace b_d := t_.blk b_d (by omega); replace b_x := t_.blk b_x (by omega); replace b_s := t_.blk b_s (by omega); replace hB := t_.below hB l_y; clear t_)
    | ((with_reducible refine at_storeX 18 25 ?_); refine L_store_all 25 _ _ (w16.heap.size) (cl (F2) (S2) (R2)) _ 25 rfl rfl b_y (szK 0 0 0) (rfl) (one_cl _ _ _) ?_; have b0_y := b_y; clear b_y; intro w18 t_ b_y; replace b_c := t_.blk b_c (by omega); replace b_k := t_.blk b_k (by omega); replace b_d := t_.blk b_d (by omega); replace b_x := t_.blk b_x (by omega); replace b_s := t_.blk b_s (by omega); replace hB := t_.below hB l_y; clear t_ b0_y))
  refine (grown_any t b V3 E3 w18 w_t w_b h4).mono ?_
  rintro e w19 ⟨rfl, t_⟩
  replace b_c := b_c.below t_ b_c.lt
  replace b_k := b_k.below t_ b_k.lt
  replace b_d := b_d.below t_ b_d.lt
  replace b_x := b_x.below t_ b_x.lt
  replace b_s := b_s.below t_ b_s.lt
  replace b_y := b_y.below t_ b_y.lt
  replace hB := hB.trans (t_.mono hB.size)
  clear t_
  go_wp2_with fail
  refine (rgrown_any t b V3 E3 w19 w_t w_b h4).mono ?_
  rintro e w20 ⟨rfl, t_⟩
  replace b_c := b_c.below t_ b_c.lt
  replace b_k := b_k.below t_ b_k.lt
  replace b_d := b_d.below t_ b_d.lt
  replace b_x := b_x.below t_ b_x.lt
  replace b_s := b_s.below t_ b_s.lt
  replace b_y := b_y.below t_ b_y.lt
  replace hB := hB.trans (t_.mono hB.size)
  clear t_
  go_wp2_with (first
    | ((with_reducible refine at_loadDG 88 ?_); refine L_give (by rfl) (g_load_all 23 _ (w7.heap.size) (cl (F) (S) (R)) 23 _ rfl b_d Try.underlying23 rfl (szC 0 0 0) ?_))
    | ((with_reducible refine at_loadDG 89 ?_); refine L_give (by rfl) (g_load_all 25 _ (w10.heap.size) (cl (F) (S) (R)) 25 _ rfl b_x Try.underlying25 rfl (szK 0 0 0) ?_))
    | ((with_reducible refine at_binD 90 ?_); refine L_give (by rfl) (g_eqlK _ _ (F) (S) (R) (F) (S) (R) true rfl rfl (decide_eq_true ⟨rfl, rfl, rfl⟩) ?_))
    | ((with_reducible refine at_loadDG 98 ?_); refine L_give (by rfl) (g_load_all 23 _ (w13.heap.size) (cl (F2) (S2) (R2)) 23 _ rfl b_s Try.underlying23 rfl (szC 0 0 0) ?_))
    | ((with_reducible refine at_loadDG 99 ?_); refine L_give (by rfl) (g_load_all 25 _ (w16.heap.size) (cl (F2) (S2) (R2)) 25 _ rfl b_y Try.underlying25 rfl (szK 0 0 0) ?_))
    | ((with_reducible refine at_binD 100 ?_); refine L_give (by rfl) (g_eqlK _ _ (F2) (S2) (R2) (F2) (S2) (R2) true rfl rfl (decide_eq_true ⟨rfl, rfl, rfl⟩) ?_)))
  go_ret
  exact ⟨rfl, hB⟩

theorem walk (f s r t b : Int) (w_f : In64 f) (w_s : In64 s) (w_r : In64 r) (w_t : In64 t) (w_b : In64 b) (w : World) :
    Calls Try.prog 3 #[.agg (cl f s r).toArray, .int .i64 t, .int .i64 b] w fun e w' => e = .returned (.bool true) ∧ Below w.heap.size w w' :=
  walk1 f s r t b w_f w_s w_r w_t w_b w _ _ _ _ _ _ _ _ _ _ _ _ rfl rfl rfl rfl

end Go.Proofs.Ytcllmobjdnhmlaa.driftTells
