/- The calls that each statement of the layer asks first, and what they answer. -/
import Derived.Test.YtcllmobjdnhmlaaDr4
namespace Go.Proofs.Ytcllmobjdnhmlaa
open Go Go.RowKit
set_option linter.unusedVariables false

set_option maxRecDepth 10000 in
set_option maxHeartbeats 4000000 in
theorem awake_any (w : World) : Calls Try.prog 10 #[] w fun e w' => e = .returned (.bool true) ∧ Below w.heap.size w w' := by
  have j0 : In64 (0) := by unfold In64; omega
  have j100 : In64 (100) := by unfold In64; omega
  have jm : In64 (1000000) := by unfold In64; omega
  have j5000 : In64 (5000) := by unfold In64; omega
  have jn1 : In64 (-1) := by unfold In64; omega
  have jnm : In64 (-1000000) := by unfold In64; omega
  have j5105 : In64 (5105) := by unfold In64; omega
  have j6000 : In64 (6000) := by unfold In64; omega
  have j10 : In64 (10) := by unfold In64; omega
  have j1 : In64 (1) := by unfold In64; omega
  have o1 : Ok 1000000 := by unfold Ok; omega
  have o2 : ¬ Ok 100000001 := by unfold Ok; omega
  have r1 : Hid (rd 0 100 1000000 5000 = (5105, 0)) := by show rd 0 100 1000000 5000 = (5105, 0); decide
  have r2 : Hid (rd 0 100 1000000 (-1) = (0, 1)) := by show rd 0 100 1000000 (-1) = (0, 1); decide
  have r3 : Hid (rd 5000 5105 (-1000000) 6000 = (6104, 0)) := by show rd 5000 5105 (-1000000) 6000 = (6104, 0); decide
  have u1 : Hid (trn 0 100 1000000 5000 (-1000000) = (5000, 5105, -1000000, 0)) := by show trn 0 100 1000000 5000 (-1000000) = (5000, 5105, -1000000, 0); decide
  have u2 : Hid (anw 0 100 1000000 5000 10 1000000 = (5000, 5115, 1000000, 0)) := by show anw 0 100 1000000 5000 10 1000000 = (5000, 5115, 1000000, 0); decide
  have g1 : Hid (grw 1 1 = (1, 0)) := by show grw 1 1 = (1, 0); decide
  have g2 : Hid (grw (-1) 1 = (0, 1)) := by show grw (-1) 1 = (0, 1); decide
  go_enter Try.func10, Try.ntmps10
  (try simp only [List.append_eq, List.cons_append, List.nil_append])
  go_wp2_with fail
  refine (new_good 0 100 1000000 w o1).mono ?_
  rintro e w1 ⟨rfl, t_⟩
  have hB := t_
  clear t_
  go_wp2_with (first
    | ((with_reducible refine at_allocD 1 23 ?_); refine L_alloc 23 (cl 0 0 0) zeroC ?_; intro w2 t_ b_c; have l_c : w.heap.size ≤ w1.heap.size := hB.size; replace hB := t_.below hB l_c; clear t_)
    | ((with_reducible refine at_storeX 1 23 ?_); refine L_store_all 23 _ _ (w1.heap.size) (cl (0) (100) (1000000)) _ 23 rfl rfl b_c (szC 0 0 0) (rfl) (one_cl _ _ _) ?_; have b0_c := b_c; clear b_c; intro w3 t_ b_c; replace hB := t_.below hB l_c; clear t_ b0_c)
    | ((with_reducible refine at_loadD 24 23 ?_); refine L_load_all 23 _ (w1.heap.size) (cl (0) (100) (1000000)) 23 _ rfl b_c Try.underlying23 rfl (szC 0 0 0) ?_))
  refine (read_any 0 100 1000000 5000 5105 0 w3 j0 j100 jm j5000 r1).mono ?_
  rintro e w4 ⟨rfl, t_⟩
  replace b_c := b_c.below t_ b_c.lt
  replace hB := hB.trans (t_.mono hB.size)
  clear t_
  go_wp2_with (first
    | ((with_reducible refine at_loadD 29 23 ?_); refine L_load_all 23 _ (w1.heap.size) (cl (0) (100) (1000000)) 23 _ rfl b_c Try.underlying23 rfl (szC 0 0 0) ?_))
  refine (read_any 0 100 1000000 (-1) 0 1 w4 j0 j100 jm jn1 r2).mono ?_
  rintro e w5 ⟨rfl, t_⟩
  replace b_c := b_c.below t_ b_c.lt
  replace hB := hB.trans (t_.mono hB.size)
  clear t_
  go_wp2_with fail
  refine (new_bad 0 0 100000001 w5 o2).mono ?_
  rintro e w6 ⟨rfl, t_⟩
  replace b_c := b_c.below t_ b_c.lt
  replace hB := hB.trans (t_.mono hB.size)
  clear t_
  go_wp2_with (first
    | ((with_reducible refine at_allocD 7 23 ?_); refine L_alloc 23 (cl 0 0 0) zeroC ?_; intro w7 t_ b_x; have l_x : w.heap.size ≤ w6.heap.size := hB.size; have o_x := b_c.lt; replace b_c := t_.blk b_c (by omega); replace hB := t_.below hB l_x; clear t_)
    | ((with_reducible refine at_storeX 7 23 ?_); refine L_store_all 23 _ _ (w6.heap.size) (cl (0) (0) (0)) _ 23 rfl rfl b_x (szC 0 0 0) (rfl) (one_cl _ _ _) ?_; have b0_x := b_x; clear b_x; intro w8 t_ b_x; replace b_c := t_.blk b_c (by omega); replace hB := t_.below hB l_x; clear t_ b0_x)
    | ((with_reducible refine at_loadD 38 23 ?_); refine L_load_all 23 _ (w1.heap.size) (cl (0) (100) (1000000)) 23 _ rfl b_c Try.underlying23 rfl (szC 0 0 0) ?_))
  refine (turn_any 0 100 1000000 5000 (-1000000) 5000 5105 (-1000000) 0 w8 j0 j100 jm j5000 jnm u1).mono ?_
  rintro e w9 ⟨rfl, t_⟩
  replace b_c := b_c.below t_ b_c.lt
  replace b_x := b_x.below t_ b_x.lt
  replace hB := hB.trans (t_.mono hB.size)
  clear t_
  go_wp2_with (first
    | ((with_reducible refine at_allocD 9 23 ?_); refine L_alloc 23 (cl 0 0 0) zeroC ?_; intro w10 t_ b_d; have l_d : w.heap.size ≤ w9.heap.size := hB.size; have o_d := b_x.lt; replace b_c := t_.blk b_c (by omega); replace b_x := t_.blk b_x (by omega); replace hB := t_.below hB l_d; clear t_)
    | ((with_reducible refine at_storeX 9 23 ?_); refine L_store_all 23 _ _ (w9.heap.size) (cl (5000) (5105) (-1000000)) _ 23 rfl rfl b_d (szC 0 0 0) (rfl) (one_cl _ _ _) ?_; have b0_d := b_d; clear b_d; intro w11 t_ b_d; replace b_c := t_.blk b_c (by omega); replace b_x := t_.blk b_x (by omega); replace hB := t_.below hB l_d; clear t_ b0_d)
    | ((with_reducible refine at_loadD 43 23 ?_); refine L_load_all 23 _ (w9.heap.size) (cl (5000) (5105) (-1000000)) 23 _ rfl b_d Try.underlying23 rfl (szC 0 0 0) ?_))
  refine (read_any 5000 5105 (-1000000) 6000 6104 0 w11 j5000 j5105 jnm j6000 r3).mono ?_
  rintro e w12 ⟨rfl, t_⟩
  replace b_c := b_c.below t_ b_c.lt
  replace b_x := b_x.below t_ b_x.lt
  replace b_d := b_d.below t_ b_d.lt
  replace hB := hB.trans (t_.mono hB.size)
  clear t_
  go_wp2_with (first
    | ((with_reducible refine at_loadD 48 23 ?_); refine L_load_all 23 _ (w1.heap.size) (cl (0) (100) (1000000)) 23 _ rfl b_c Try.underlying23 rfl (szC 0 0 0) ?_))
  refine (step_any 0 100 1000000 5000 10 5000 5115 1000000 0 w12 j0 j100 jm j5000 j10 u2).mono ?_
  rintro e w13 ⟨rfl, t_⟩
  replace b_c := b_c.below t_ b_c.lt
  replace b_x := b_x.below t_ b_x.lt
  replace b_d := b_d.below t_ b_d.lt
  replace hB := hB.trans (t_.mono hB.size)
  clear t_
  go_wp2_with (first
    | ((with_reducible refine at_allocD 13 23 ?_); refine L_alloc 23 (cl 0 0 0) zeroC ?_; intro w14 t_ b_s; have l_s : w.heap.size ≤ w13.heap.size := hB.size; have o_s := b_d.lt; replace b_c := t_.blk b_c (by omega); replace b_x := t_.blk b_x (by omega); replace b_d := t_.blk b_d (by omega); replace hB := t_.below hB l_s; clear t_)
    | ((with_reducible refine at_storeX 13 23 ?_); refine L_store_all 23 _ _ (w13.heap.size) (cl (5000) (5115) (1000000)) _ 23 rfl rfl b_s (szC 0 0 0) (rfl) (one_cl _ _ _) ?_; have b0_s := b_s; clear b_s; intro w15 t_ b_s; replace b_c := t_.blk b_c (by omega); replace b_x := t_.blk b_x (by omega); replace b_d := t_.blk b_d (by omega); replace hB := t_.below hB l_s; clear t_ b0_s))
  refine (grown_any 1 1 1 0 w15 j1 j1 g1).mono ?_
  rintro e w16 ⟨rfl, t_⟩
  replace b_c := b_c.below t_ b_c.lt
  replace b_x := b_x.below t_ b_x.lt
  replace b_d := b_d.below t_ b_d.lt
  replace b_s := b_s.below t_ b_s.lt
  replace hB := hB.trans (t_.mono hB.size)
  clear t_
  go_wp2_with fail
  refine (grown_any (-1) 1 0 1 w16 jn1 j1 g2).mono ?_
  rintro e w17 ⟨rfl, t_⟩
  replace b_c := b_c.below t_ b_c.lt
  replace b_x := b_x.below t_ b_x.lt
  replace b_d := b_d.below t_ b_d.lt
  replace b_s := b_s.below t_ b_s.lt
  replace hB := hB.trans (t_.mono hB.size)
  clear t_
  go_wp2_with (first
    | ((with_reducible refine at_loadDG 95 ?_); refine L_give (by rfl) (g_load_all 23 _ (w13.heap.size) (cl (5000) (5115) (1000000)) 23 _ rfl b_s Try.underlying23 rfl (szC 0 0 0) ?_))
    | ((with_reducible refine at_bld 96 ?_); refine L_give (by rfl) (g_bldC _ _ _ _ _ _ rfl rfl rfl ?_))
    | ((with_reducible refine at_binD 97 ?_); refine L_give (by rfl) (g_eqlC _ _ (5000) (5115) (1000000) (5000) (5115) (1000000) true rfl rfl (decide_eq_true ⟨rfl, rfl, rfl⟩) ?_)))
  go_ret
  exact ⟨rfl, hB⟩

end Go.Proofs.Ytcllmobjdnhmlaa
