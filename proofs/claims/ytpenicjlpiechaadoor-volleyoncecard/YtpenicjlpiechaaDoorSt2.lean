/- What the program's stamp.Since answers; nothing that was there is changed. -/
import Derived.Test.YtpenicjlpiechaaDoorWide6
namespace Go.Proofs.YtpenicjlpiechaaDoor.Wd
set_option maxRecDepth 10000
open Go Go.RowKit
set_option linter.unusedVariables false

set_option maxRecDepth 10000 in
set_option maxHeartbeats 4000000 in
theorem since_ok (a b D : Int) (w : World) (ha : In128 a) (hb : In128 b) (hD : Hid (a - b = D)) (hd : In64 D) :
    Calls Tryd.prog 43 #[.agg (nl a).toArray, .agg (nl b).toArray] w fun e w' => e = .returned (.tuple #[.int .i64 (D), .int .i64 (0)]) ∧ Below w.heap.size w w' := by
  go_enter Tryd.func43, Tryd.ntmps43
  go_wp2_with (first
    | ((with_reducible refine at_boxD 2 60 ?_); refine L_box 60 _ (nl (a)) rfl ?_; intro w1 t_ b_a; have l_a : w.heap.size ≤ w.heap.size := Nat.le_refl _; have hB : Below w.heap.size w w1 := t_.below (Below.refl _ _) (Nat.le_refl _); clear t_)
    | ((with_reducible refine at_boxD 3 60 ?_); refine L_box 60 _ (nl (b)) rfl ?_; intro w2 t_ b_b; have l_b : w.heap.size ≤ w1.heap.size := hB.size; have o_b := b_a.lt; replace b_a := t_.blk b_a (by omega); replace hB := t_.below hB l_b; clear t_)
    | ((with_reducible refine at_loadD 9 60 ?_); refine L_load_all 60 _ (w.heap.size) (nl (a)) 60 _ rfl b_a Tryd.underlying60 rfl (szN 0) ?_)
    | ((with_reducible refine at_loadD 10 60 ?_); refine L_load_all 60 _ (w1.heap.size) (nl (b)) 60 _ rfl b_b Tryd.underlying60 rfl (szN 0) ?_))
  refine (sub_l a b D w2 ha hb (In64.to D hd) hD).mono ?_
  rintro e w3 ⟨rfl, t_⟩
  replace b_a := b_a.below t_ b_a.lt
  replace b_b := b_b.below t_ b_b.lt
  replace hB := hB.trans (t_.mono hB.size)
  clear t_
  go_wp2_with (first
    | ((with_reducible refine at_allocD 6 60 ?_); refine L_alloc 60 (nl (0)) zeroN ?_; intro w4 t_ b_d; have l_d : w.heap.size ≤ w3.heap.size := hB.size; have o_d := b_b.lt; replace b_a := t_.blk b_a (by omega); replace b_b := t_.blk b_b (by omega); replace hB := t_.below hB l_d; clear t_)
    | ((with_reducible refine at_storeX 6 60 ?_); refine L_store_all 60 _ _ (w3.heap.size) (nl (D)) _ 60 rfl rfl b_d (szN 0) (rfl) (one_nl _) ?_; have b0_d := b_d; clear b_d; intro w5 t_ b_d; replace b_a := t_.blk b_a (by omega); replace b_b := t_.blk b_b (by omega); replace hB := t_.below hB l_d; clear t_ b0_d)
    | ((with_reducible refine at_loadD 17 60 ?_); refine L_load_all 60 _ (w3.heap.size) (nl (D)) 60 _ rfl b_d Tryd.underlying60 rfl (szN 0) ?_))
  refine (int_ok D w5 hd).mono ?_
  rintro e w6 ⟨rfl, t_⟩
  replace b_a := b_a.below t_ b_a.lt
  replace b_b := b_b.below t_ b_b.lt
  replace b_d := b_d.below t_ b_d.lt
  replace hB := hB.trans (t_.mono hB.size)
  clear t_
  go_wp2_with fail
  go_ret2
  exact ⟨rfl, hB⟩

set_option maxRecDepth 10000 in
set_option maxHeartbeats 4000000 in
theorem since_over1 (a b D : Int) (w : World) (ha : In128 a) (hb : In128 b) (hD : Hid (a - b = D)) (hd1 : In128 D) (hd : ¬ In64 D) :
    Calls Tryd.prog 43 #[.agg (nl a).toArray, .agg (nl b).toArray] w fun e w' => e = .returned (.tuple #[.int .i64 (0), .int .i64 (6)]) ∧ Below w.heap.size w w' := by
  go_enter Tryd.func43, Tryd.ntmps43
  go_wp2_with (first
    | ((with_reducible refine at_boxD 2 60 ?_); refine L_box 60 _ (nl (a)) rfl ?_; intro w1 t_ b_a; have l_a : w.heap.size ≤ w.heap.size := Nat.le_refl _; have hB : Below w.heap.size w w1 := t_.below (Below.refl _ _) (Nat.le_refl _); clear t_)
    | ((with_reducible refine at_boxD 3 60 ?_); refine L_box 60 _ (nl (b)) rfl ?_; intro w2 t_ b_b; have l_b : w.heap.size ≤ w1.heap.size := hB.size; have o_b := b_a.lt; replace b_a := t_.blk b_a (by omega); replace hB := t_.below hB l_b; clear t_)
    | ((with_reducible refine at_loadD 9 60 ?_); refine L_load_all 60 _ (w.heap.size) (nl (a)) 60 _ rfl b_a Tryd.underlying60 rfl (szN 0) ?_)
    | ((with_reducible refine at_loadD 10 60 ?_); refine L_load_all 60 _ (w1.heap.size) (nl (b)) 60 _ rfl b_b Tryd.underlying60 rfl (szN 0) ?_))
  refine (sub_l a b D w2 ha hb hd1 hD).mono ?_
  rintro e w3 ⟨rfl, t_⟩
  replace b_a := b_a.below t_ b_a.lt
  replace b_b := b_b.below t_ b_b.lt
  replace hB := hB.trans (t_.mono hB.size)
  clear t_
  go_wp2_with (first
    | ((with_reducible refine at_allocD 6 60 ?_); refine L_alloc 60 (nl (0)) zeroN ?_; intro w4 t_ b_d; have l_d : w.heap.size ≤ w3.heap.size := hB.size; have o_d := b_b.lt; replace b_a := t_.blk b_a (by omega); replace b_b := t_.blk b_b (by omega); replace hB := t_.below hB l_d; clear t_)
    | ((with_reducible refine at_storeX 6 60 ?_); refine L_store_all 60 _ _ (w3.heap.size) (nl (D)) _ 60 rfl rfl b_d (szN 0) (rfl) (one_nl _) ?_; have b0_d := b_d; clear b_d; intro w5 t_ b_d; replace b_a := t_.blk b_a (by omega); replace b_b := t_.blk b_b (by omega); replace hB := t_.below hB l_d; clear t_ b0_d)
    | ((with_reducible refine at_loadD 17 60 ?_); refine L_load_all 60 _ (w3.heap.size) (nl (D)) 60 _ rfl b_d Tryd.underlying60 rfl (szN 0) ?_))
  refine (int_over D w5 hd).mono ?_
  rintro e w6 ⟨rfl, t_⟩
  replace b_a := b_a.below t_ b_a.lt
  replace b_b := b_b.below t_ b_b.lt
  replace b_d := b_d.below t_ b_d.lt
  replace hB := hB.trans (t_.mono hB.size)
  clear t_
  go_wp2_with fail
  go_ret2
  exact ⟨rfl, hB⟩

set_option maxRecDepth 10000 in
set_option maxHeartbeats 4000000 in
theorem since_over2 (a b : Int) (w : World) (ha : In128 a) (hb : In128 b) (hd : ¬ In128 (a - b)) :
    Calls Tryd.prog 43 #[.agg (nl a).toArray, .agg (nl b).toArray] w fun e w' => e = .returned (.tuple #[.int .i64 (0), .int .i64 (6)]) ∧ Below w.heap.size w w' := by
  go_enter Tryd.func43, Tryd.ntmps43
  go_wp2_with (first
    | ((with_reducible refine at_boxD 2 60 ?_); refine L_box 60 _ (nl (a)) rfl ?_; intro w1 t_ b_a; have l_a : w.heap.size ≤ w.heap.size := Nat.le_refl _; have hB : Below w.heap.size w w1 := t_.below (Below.refl _ _) (Nat.le_refl _); clear t_)
    | ((with_reducible refine at_boxD 3 60 ?_); refine L_box 60 _ (nl (b)) rfl ?_; intro w2 t_ b_b; have l_b : w.heap.size ≤ w1.heap.size := hB.size; have o_b := b_a.lt; replace b_a := t_.blk b_a (by omega); replace hB := t_.below hB l_b; clear t_)
    | ((with_reducible refine at_loadD 9 60 ?_); refine L_load_all 60 _ (w.heap.size) (nl (a)) 60 _ rfl b_a Tryd.underlying60 rfl (szN 0) ?_)
    | ((with_reducible refine at_loadD 10 60 ?_); refine L_load_all 60 _ (w1.heap.size) (nl (b)) 60 _ rfl b_b Tryd.underlying60 rfl (szN 0) ?_))
  refine (sub_over a b w2 ha hb hd).mono ?_
  rintro e w3 ⟨rfl, t_⟩
  replace b_a := b_a.below t_ b_a.lt
  replace b_b := b_b.below t_ b_b.lt
  replace hB := hB.trans (t_.mono hB.size)
  clear t_
  go_wp2_with (first
    | ((with_reducible refine at_allocD 6 60 ?_); refine L_alloc 60 (nl (0)) zeroN ?_; intro w4 t_ b_d; have l_d : w.heap.size ≤ w3.heap.size := hB.size; have o_d := b_b.lt; replace b_a := t_.blk b_a (by omega); replace b_b := t_.blk b_b (by omega); replace hB := t_.below hB l_d; clear t_)
    | ((with_reducible refine at_storeX 6 60 ?_); refine L_store_all 60 _ _ (w3.heap.size) (nl (0)) _ 60 rfl rfl b_d (szN 0) (rfl) (one_nl _) ?_; have b0_d := b_d; clear b_d; intro w5 t_ b_d; replace b_a := t_.blk b_a (by omega); replace b_b := t_.blk b_b (by omega); replace hB := t_.below hB l_d; clear t_ b0_d))
  go_ret2
  exact ⟨rfl, hB⟩

theorem since_over (a b : Int) (w : World) (ha : In128 a) (hb : In128 b) (hd : ¬ In64 (a - b)) :
    Calls Tryd.prog 43 #[.agg (nl a).toArray, .agg (nl b).toArray] w fun e w' => e = .returned (.tuple #[.int .i64 0, .int .i64 6]) ∧ Below w.heap.size w w' := by
  by_cases h : In128 (a - b)
  · exact since_over1 a b (a - b) w ha hb rfl h hd
  · exact since_over2 a b w ha hb h

end Go.Proofs.YtpenicjlpiechaaDoor.Wd
