/- What the program's drift.New answers, and Clock.first, gone, gained and wholes; nothing that was there is changed. -/
import Derived.Test.YtpenicjlpiechaaDoorDr0
namespace Go.Proofs.YtpenicjlpiechaaDoor.Wd
set_option maxRecDepth 10000
open Go Go.RowKit
set_option linter.unusedVariables false

set_option maxRecDepth 10000 in
set_option maxHeartbeats 4000000 in
theorem first_any (f s r n : Int) (w : World) (hs : In64 s) :
    Calls Tryd.prog 63 #[.agg (cl f s r).toArray, .int .i64 n] w fun e w' => e = .returned (.agg (nl s).toArray) ∧ Below w.heap.size w w' := by
  go_enter Tryd.func63, Tryd.ntmps63
  go_wp2_with (first
    | ((with_reducible refine at_boxD 2 36 ?_); refine L_box 36 _ (cl (f) (s) (r)) rfl ?_; intro w1 t_ b_c; have l_c : w.heap.size ≤ w.heap.size := Nat.le_refl _; have hB : Below w.heap.size w w1 := t_.below (Below.refl _ _) (Nat.le_refl _); clear t_)
    | ((with_reducible refine at_allocD 4 60 ?_); refine L_alloc 60 (nl (0)) zeroN ?_; intro w2 t_ b_r; have l_r : w.heap.size ≤ w1.heap.size := hB.size; have o_r := b_c.lt; replace b_c := t_.blk b_c (by omega); replace hB := t_.below hB l_r; clear t_)
    | ((with_reducible refine at_loadD 6 2 ?_); refine L_cell2 _ (w.heap.size) 1 (cl (f) (s) (r)) 36 (.int .i64 (s)) rfl b_c (rfl) ?_))
  refine (of_any s w2 hs).mono ?_
  rintro e w3 ⟨rfl, t_⟩
  replace b_c := b_c.below t_ b_c.lt
  replace b_r := b_r.below t_ b_r.lt
  replace hB := hB.trans (t_.mono hB.size)
  clear t_
  go_wp2_with (first
    | ((with_reducible refine at_storeX 4 60 ?_); refine L_store_all 60 _ _ (w1.heap.size) (nl (s)) _ 60 rfl rfl b_r (szN 0) (rfl) (one_nl _) ?_; have b0_r := b_r; clear b_r; intro w4 t_ b_r; replace b_c := t_.blk b_c (by omega); replace hB := t_.below hB l_r; clear t_ b0_r))
  exact bodyPost_ret (results_blk rfl _ (nl s) _ rfl b_r Tryd.underlying60 rfl (szN 0)) rfl ⟨rfl, hB⟩

set_option maxRecDepth 10000 in
set_option maxHeartbeats 4000000 in
theorem gone_any (f s r n : Int) (w : World) (hn : In64 n) :
    Calls Tryd.prog 64 #[.agg (cl f s r).toArray, .int .i64 n] w fun e w' => e = .returned (.agg (nl n).toArray) ∧ Below w.heap.size w w' := by
  go_enter Tryd.func64, Tryd.ntmps64
  go_wp2_with (first
    | ((with_reducible refine at_boxD 2 36 ?_); refine L_box 36 _ (cl (f) (s) (r)) rfl ?_; intro w1 t_ b_c; have l_c : w.heap.size ≤ w.heap.size := Nat.le_refl _; have hB : Below w.heap.size w w1 := t_.below (Below.refl _ _) (Nat.le_refl _); clear t_)
    | ((with_reducible refine at_allocD 4 60 ?_); refine L_alloc 60 (nl (0)) zeroN ?_; intro w2 t_ b_r; have l_r : w.heap.size ≤ w1.heap.size := hB.size; have o_r := b_c.lt; replace b_c := t_.blk b_c (by omega); replace hB := t_.below hB l_r; clear t_))
  refine (of_any n w2 hn).mono ?_
  rintro e w3 ⟨rfl, t_⟩
  replace b_c := b_c.below t_ b_c.lt
  replace b_r := b_r.below t_ b_r.lt
  replace hB := hB.trans (t_.mono hB.size)
  clear t_
  go_wp2_with (first
    | ((with_reducible refine at_storeX 4 60 ?_); refine L_store_all 60 _ _ (w1.heap.size) (nl (n)) _ 60 rfl rfl b_r (szN 0) (rfl) (one_nl _) ?_; have b0_r := b_r; clear b_r; intro w4 t_ b_r; replace b_c := t_.blk b_c (by omega); replace hB := t_.below hB l_r; clear t_ b0_r))
  exact bodyPost_ret (results_blk rfl _ (nl n) _ rfl b_r Tryd.underlying60 rfl (szN 0)) rfl ⟨rfl, hB⟩

set_option maxRecDepth 10000 in
set_option maxHeartbeats 4000000 in
theorem wholes_any (P Q M : Int) (w : World) (hP : In128 P) (hQ : Hid (P / 1000000000 = Q)) (hM : Hid (P % 1000000000 = M)) :
    Calls Tryd.prog 74 #[.agg (nl P).toArray] w fun e w' => e = .returned (.agg (nl Q).toArray) ∧ Below w.heap.size w w' := by
  go_enter Tryd.func74, Tryd.ntmps74
  go_wp2_with (first
    | ((with_reducible refine at_boxD 1 60 ?_); refine L_box 60 _ (nl (P)) rfl ?_; intro w1 t_ b_p; have l_p : w.heap.size ≤ w.heap.size := Nat.le_refl _; have hB : Below w.heap.size w w1 := t_.below (Below.refl _ _) (Nat.le_refl _); clear t_)
    | ((with_reducible refine at_allocD 2 60 ?_); refine L_alloc 60 (nl (0)) zeroN ?_; intro w2 t_ b_r; have l_r : w.heap.size ≤ w1.heap.size := hB.size; have o_r := b_p.lt; replace b_p := t_.blk b_p (by omega); replace hB := t_.below hB l_r; clear t_)
    | ((with_reducible refine at_loadD 7 60 ?_); refine L_load_all 60 _ (w.heap.size) (nl (P)) 60 _ rfl b_p Tryd.underlying60 rfl (szN 0) ?_))
  refine (div_any P 1000000000 w2 hP (by omega) (by omega) Q M hQ hM).mono ?_
  rintro e w3 ⟨rfl, t_⟩
  replace b_p := b_p.below t_ b_p.lt
  replace b_r := b_r.below t_ b_r.lt
  replace hB := hB.trans (t_.mono hB.size)
  clear t_
  go_wp2_with (first
    | ((with_reducible refine at_allocD 3 60 ?_); refine L_alloc 60 (nl (0)) zeroN ?_; intro w4 t_ b_n; have l_n : w.heap.size ≤ w3.heap.size := hB.size; have o_n := b_r.lt; replace b_p := t_.blk b_p (by omega); replace b_r := t_.blk b_r (by omega); replace hB := t_.below hB l_n; clear t_)
    | ((with_reducible refine at_storeX 3 60 ?_); refine L_store_all 60 _ _ (w3.heap.size) (nl (Q)) _ 60 rfl rfl b_n (szN 0) (rfl) (one_nl _) ?_; have b0_n := b_n; clear b_n; intro w5 t_ b_n; replace b_p := t_.blk b_p (by omega); replace b_r := t_.blk b_r (by omega); replace hB := t_.below hB l_n; clear t_ b0_n)
    | ((with_reducible refine at_loadD 12 60 ?_); refine L_load_all 60 _ (w3.heap.size) (nl (Q)) 60 _ rfl b_n Tryd.underlying60 rfl (szN 0) ?_)
    | ((with_reducible refine at_storeX 2 60 ?_); refine L_store_all 60 _ _ (w1.heap.size) (nl (Q)) _ 60 rfl rfl b_r (szN 0) (rfl) (one_nl _) ?_; have b0_r := b_r; clear b_r; intro w6 t_ b_r; replace b_p := t_.blk b_p (by omega); replace b_n := t_.blk b_n (by omega); replace hB := t_.below hB l_r; clear t_ b0_r))
  exact bodyPost_ret (results_blk rfl _ (nl Q) _ rfl b_r Tryd.underlying60 rfl (szN 0)) rfl ⟨rfl, hB⟩

set_option maxRecDepth 10000 in
set_option maxHeartbeats 4000000 in
theorem gained_any (f s r n P Q M : Int) (w : World) (hn : In64 n) (hr : In64 r) (hP : Hid (n * r = P)) (iP : In128 P) (hQ : Hid (P / 1000000000 = Q)) (hM : Hid (P % 1000000000 = M)) :
    Calls Tryd.prog 65 #[.agg (cl f s r).toArray, .int .i64 n] w fun e w' => e = .returned (.agg (nl Q).toArray) ∧ Below w.heap.size w w' := by
  go_enter Tryd.func65, Tryd.ntmps65
  go_wp2_with (first
    | ((with_reducible refine at_boxD 2 36 ?_); refine L_box 36 _ (cl (f) (s) (r)) rfl ?_; intro w1 t_ b_c; have l_c : w.heap.size ≤ w.heap.size := Nat.le_refl _; have hB : Below w.heap.size w w1 := t_.below (Below.refl _ _) (Nat.le_refl _); clear t_)
    | ((with_reducible refine at_allocD 4 60 ?_); refine L_alloc 60 (nl (0)) zeroN ?_; intro w2 t_ b_r; have l_r : w.heap.size ≤ w1.heap.size := hB.size; have o_r := b_c.lt; replace b_c := t_.blk b_c (by omega); replace hB := t_.below hB l_r; clear t_)
    | ((with_reducible refine at_loadD 7 2 ?_); refine L_cell2 _ (w.heap.size) 2 (cl (f) (s) (r)) 36 (.int .i64 (r)) rfl b_c (rfl) ?_))
  refine (times_l n r P hP w2 hn hr).mono ?_
  rintro e w3 ⟨rfl, t_⟩
  replace b_c := b_c.below t_ b_c.lt
  replace b_r := b_r.below t_ b_r.lt
  replace hB := hB.trans (t_.mono hB.size)
  clear t_
  go_wp2_with fail
  refine (wholes_any P Q M w3 iP hQ hM).mono ?_
  rintro e w4 ⟨rfl, t_⟩
  replace b_c := b_c.below t_ b_c.lt
  replace b_r := b_r.below t_ b_r.lt
  replace hB := hB.trans (t_.mono hB.size)
  clear t_
  go_wp2_with (first
    | ((with_reducible refine at_storeX 4 60 ?_); refine L_store_all 60 _ _ (w1.heap.size) (nl (Q)) _ 60 rfl rfl b_r (szN 0) (rfl) (one_nl _) ?_; have b0_r := b_r; clear b_r; intro w5 t_ b_r; replace b_c := t_.blk b_c (by omega); replace hB := t_.below hB l_r; clear t_ b0_r))
  exact bodyPost_ret (results_blk rfl _ (nl Q) _ rfl b_r Tryd.underlying60 rfl (szN 0)) rfl ⟨rfl, hB⟩

set_option maxRecDepth 10000 in
set_option maxHeartbeats 4000000 in
theorem new_lo (t m q : Int) (w : World) (hq : q < -100000000) :
    Calls Tryd.prog 15 #[.int .i64 t, .int .i64 m, .int .i64 q] w fun e w' => e = .returned (.tuple #[.agg (cl (0) (0) (0)).toArray, .int .i64 (3)]) ∧ Below w.heap.size w w' := by
  go_enter Tryd.func15, Tryd.ntmps15
  go_wp2_with (first
    | ((with_reducible refine at_allocD 6 36 ?_); refine L_alloc 36 (cl 0 0 0) zeroC ?_; intro w1 t_ b_r; have l_r : w.heap.size ≤ w.heap.size := Nat.le_refl _; have hB : Below w.heap.size w w1 := t_.below (Below.refl _ _) (Nat.le_refl _); clear t_)
    | ((with_reducible refine at_binD 9 ?_); refine L_give (by rfl) (g_ilss 2 _ _ .i64 _ _ true rfl rfl (decide_eq_true hq) ?_))
    | ((with_reducible refine at_bld 14 ?_); refine L_give (by rfl) (g_bldC0 ?_))
    | ((with_reducible refine at_storeX 6 36 ?_); refine L_store_all 36 _ _ (w.heap.size) (cl (0) (0) (0)) _ 36 rfl rfl b_r (szC 0 0 0) (rfl) (one_cl _ _ _) ?_; have b0_r := b_r; clear b_r; intro w2 t_ b_r; replace hB := t_.below hB l_r; clear t_ b0_r))
  exact bodyPost_ret (results_blk_tmp rfl _ (cl (0) (0) (0)) (.int .i64 (3)) _ rfl rfl b_r Tryd.underlying36 rfl (szC 0 0 0)) rfl ⟨rfl, hB⟩

set_option maxRecDepth 10000 in
set_option maxHeartbeats 4000000 in
theorem new_hi (t m q : Int) (w : World) (hq : ¬ q < -100000000) (hq2 : 100000000 < q) :
    Calls Tryd.prog 15 #[.int .i64 t, .int .i64 m, .int .i64 q] w fun e w' => e = .returned (.tuple #[.agg (cl (0) (0) (0)).toArray, .int .i64 (3)]) ∧ Below w.heap.size w w' := by
  go_enter Tryd.func15, Tryd.ntmps15
  go_wp2_with (first
    | ((with_reducible refine at_allocD 6 36 ?_); refine L_alloc 36 (cl 0 0 0) zeroC ?_; intro w1 t_ b_r; have l_r : w.heap.size ≤ w.heap.size := Nat.le_refl _; have hB : Below w.heap.size w w1 := t_.below (Below.refl _ _) (Nat.le_refl _); clear t_)
    | ((with_reducible refine at_binD 9 ?_); refine L_give (by rfl) (g_ilss 2 _ _ .i64 _ _ false rfl rfl (decide_eq_false hq) ?_))
    | ((with_reducible refine at_binD 12 ?_); refine L_give (by rfl) (g_igtr 2 _ _ .i64 _ _ true rfl rfl (decide_eq_true hq2) ?_))
    | ((with_reducible refine at_bld 14 ?_); refine L_give (by rfl) (g_bldC0 ?_))
    | ((with_reducible refine at_storeX 6 36 ?_); refine L_store_all 36 _ _ (w.heap.size) (cl (0) (0) (0)) _ 36 rfl rfl b_r (szC 0 0 0) (rfl) (one_cl _ _ _) ?_; have b0_r := b_r; clear b_r; intro w2 t_ b_r; replace hB := t_.below hB l_r; clear t_ b0_r))
  exact bodyPost_ret (results_blk_tmp rfl _ (cl (0) (0) (0)) (.int .i64 (3)) _ rfl rfl b_r Tryd.underlying36 rfl (szC 0 0 0)) rfl ⟨rfl, hB⟩

set_option maxRecDepth 10000 in
set_option maxHeartbeats 4000000 in
theorem new_ok (t m q : Int) (w : World) (hq : ¬ q < -100000000) (hq2 : ¬ 100000000 < q) :
    Calls Tryd.prog 15 #[.int .i64 t, .int .i64 m, .int .i64 q] w fun e w' => e = .returned (.tuple #[.agg (cl (t) (m) (q)).toArray, .int .i64 (0)]) ∧ Below w.heap.size w w' := by
  go_enter Tryd.func15, Tryd.ntmps15
  go_wp2_with (first
    | ((with_reducible refine at_allocD 6 36 ?_); refine L_alloc 36 (cl 0 0 0) zeroC ?_; intro w1 t_ b_r; have l_r : w.heap.size ≤ w.heap.size := Nat.le_refl _; have hB : Below w.heap.size w w1 := t_.below (Below.refl _ _) (Nat.le_refl _); clear t_)
    | ((with_reducible refine at_binD 9 ?_); refine L_give (by rfl) (g_ilss 2 _ _ .i64 _ _ false rfl rfl (decide_eq_false hq) ?_))
    | ((with_reducible refine at_binD 12 ?_); refine L_give (by rfl) (g_igtr 2 _ _ .i64 _ _ false rfl rfl (decide_eq_false hq2) ?_))
    | ((with_reducible refine at_bld 18 ?_); refine L_give (by rfl) (g_bldC _ _ _ _ _ _ rfl rfl rfl ?_))
    | ((with_reducible refine at_storeX 6 36 ?_); refine L_store_all 36 _ _ (w.heap.size) (cl (t) (m) (q)) _ 36 rfl rfl b_r (szC 0 0 0) (rfl) (one_cl _ _ _) ?_; have b0_r := b_r; clear b_r; intro w2 t_ b_r; replace hB := t_.below hB l_r; clear t_ b0_r))
  exact bodyPost_ret (results_blk_tmp rfl _ (cl (t) (m) (q)) (.int .i64 (0)) _ rfl rfl b_r Tryd.underlying36 rfl (szC 0 0 0)) rfl ⟨rfl, hB⟩

/-- May a clock have this rate? -/
def Ok (q : Int) : Prop := -100000000 ≤ q ∧ q ≤ 100000000
theorem new_good (t m q : Int) (w : World) (hq : Ok q) :
    Calls Tryd.prog 15 #[.int .i64 t, .int .i64 m, .int .i64 q] w fun e w' => e = .returned (.tuple #[.agg (cl t m q).toArray, .int .i64 0]) ∧ Below w.heap.size w w' := by
  unfold Ok at hq
  exact new_ok t m q w (by omega) (by omega)
theorem new_bad (t m q : Int) (w : World) (hq : ¬ Ok q) :
    Calls Tryd.prog 15 #[.int .i64 t, .int .i64 m, .int .i64 q] w fun e w' => e = .returned (.tuple #[.agg (cl 0 0 0).toArray, .int .i64 3]) ∧ Below w.heap.size w w' := by
  unfold Ok at hq
  by_cases h : q < -100000000
  · exact new_lo t m q w h
  · exact new_hi t m q w h (by omega)

end Go.Proofs.YtpenicjlpiechaaDoor.Wd
