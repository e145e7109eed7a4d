/- What the law's same answers, where it is true. -/
import Derived.Test.YtkgcnbmnhbmdiaaRefWide
namespace Go.Proofs.Ytkgcnbmnhbmdiaa
open Go Go.RowKit
set_option linter.unusedVariables false

set_option maxRecDepth 10000 in
set_option maxHeartbeats 8000000 in
theorem same_over (u : Value) (z : Int) (w : World) (hu : RN w u z) (fz : Few z 200) (hz : ¬ In128 z) :
    Calls Try.prog 18 #[.agg (nl 0).toArray, .int .i64 6, u] w fun e w' => e = .returned (.bool true) ∧ Below w.heap.size w w' := by
  obtain ⟨s, b, rfl, ra⟩ := hu
  have hb : Hid (decide (-((2 : Int) ^ 127) ≤ z ∧ z < (2 : Int) ^ 127) = false) := decide_eq_false hz
  clear hz
  go_enter Try.func18, Try.ntmps18
  go_wp2_with (first
    | ((with_reducible refine at_boxD 3 24 ?_); refine L_box 24 _ (nl (0)) rfl ?_; intro w1 t_ b_a; have l_a : w.heap.size ≤ w.heap.size := Nat.le_refl _; replace ra := ra.below t_.toBelow; have hB : Below w.heap.size w w1 := t_.below (Below.refl _ _) (Nat.le_refl _); clear t_)
    | ((with_reducible refine at_boxD 5 34 ?_); refine L_box 34 _ ([.bool s, b]) rfl ?_; intro w2 t_ b_t; have l_t : w.heap.size ≤ w1.heap.size := hB.size; have o_t := b_a.lt; replace ra := ra.below t_.toBelow; replace b_a := t_.blk b_a (by omega); replace hB := t_.below hB l_t; clear t_)
    | ((with_reducible refine at_loadD 9 34 ?_); refine L_load_all 34 _ (w1.heap.size) ([.bool s, b]) 34 _ rfl b_t Try.underlying34 rfl (sz34) ?_))
  refine (fits_any _ z 127 w2 false ⟨_, _, rfl, ra⟩ fz hb).mono ?_
  rintro e w3 ⟨rfl, t_⟩
  replace ra := ra.below t_
  replace b_a := b_a.below t_ b_a.lt
  replace b_t := b_t.below t_ b_t.lt
  replace hB := hB.trans (t_.mono hB.size)
  clear t_
  go_wp2_with (first
    | ((with_reducible refine at_loadDG 15 ?_); refine L_give (by rfl) (g_load_all 24 _ (w.heap.size) (nl (0)) 24 _ rfl b_a Try.underlying24 rfl (sz24 0) ?_))
    | ((with_reducible refine at_binD 17 ?_); refine L_give (by rfl) (g_eql24 _ _ (0) (0) true rfl rfl (decide_eq_true rfl) ?_)))
  go_ret
  exact ⟨rfl, hB⟩

set_option maxRecDepth 10000 in
set_option maxHeartbeats 8000000 in
theorem same_ok (u : Value) (z : Int) (w : World) (hu : RN w u z) (fz : Few z 200) (hz : In128 z) :
    Calls Try.prog 18 #[.agg (nl z).toArray, .int .i64 0, u] w fun e w' => e = .returned (.bool true) ∧ Below w.heap.size w w' := by
  obtain ⟨s, b, rfl, ra⟩ := hu
  have hb : Hid (decide (-((2 : Int) ^ 127) ≤ z ∧ z < (2 : Int) ^ 127) = true) := decide_eq_true hz
  go_enter Try.func18, Try.ntmps18
  go_wp2_with (first
    | ((with_reducible refine at_boxD 3 24 ?_); refine L_box 24 _ (nl (z)) rfl ?_; intro w1 t_ b_a; have l_a : w.heap.size ≤ w.heap.size := Nat.le_refl _; replace ra := ra.below t_.toBelow; have hB : Below w.heap.size w w1 := t_.below (Below.refl _ _) (Nat.le_refl _); clear t_)
    | ((with_reducible refine at_boxD 5 34 ?_); refine L_box 34 _ ([.bool s, b]) rfl ?_; intro w2 t_ b_t; have l_t : w.heap.size ≤ w1.heap.size := hB.size; have o_t := b_a.lt; replace ra := ra.below t_.toBelow; replace b_a := t_.blk b_a (by omega); replace hB := t_.below hB l_t; clear t_)
    | ((with_reducible refine at_loadD 9 34 ?_); refine L_load_all 34 _ (w1.heap.size) ([.bool s, b]) 34 _ rfl b_t Try.underlying34 rfl (sz34) ?_))
  refine (fits_any _ z 127 w2 true ⟨_, _, rfl, ra⟩ fz hb).mono ?_
  rintro e w3 ⟨rfl, t_⟩
  replace ra := ra.below t_
  replace b_a := b_a.below t_ b_a.lt
  replace b_t := b_t.below t_ b_t.lt
  replace hB := hB.trans (t_.mono hB.size)
  clear t_
  go_wp2_with (first
    | ((with_reducible refine at_loadD 20 34 ?_); refine L_load_all 34 _ (w1.heap.size) ([.bool s, b]) 34 _ rfl b_t Try.underlying34 rfl (sz34) ?_))
  refine (wide_any _ z _ _ w3 ⟨_, _, rfl, ra⟩ hz rfl rfl).mono ?_
  rintro e w4 ⟨rfl, t_⟩
  replace ra := ra.below t_
  replace b_a := b_a.below t_ b_a.lt
  replace b_t := b_t.below t_ b_t.lt
  replace hB := hB.trans (t_.mono hB.size)
  clear t_
  go_wp2_with (first
    | ((with_reducible refine at_loadDG 27 ?_); refine L_give (by rfl) (g_load_all 24 _ (w.heap.size) (nl (z)) 24 _ rfl b_a Try.underlying24 rfl (sz24 0) ?_))
    | ((with_reducible refine at_binD 31 ?_); refine L_give (by rfl) (g_eql24 _ _ (z) (z) true rfl rfl (decide_eq_true rfl) ?_)))
  go_ret
  exact ⟨rfl, hB⟩

end Go.Proofs.Ytkgcnbmnhbmdiaa
