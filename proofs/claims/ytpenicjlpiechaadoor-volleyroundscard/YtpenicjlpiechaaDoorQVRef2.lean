/- What the reference's Round answers; nothing that was there is changed. -/
import Derived.Test.YtpenicjlpiechaaDoorQVRef1
namespace Go.Proofs.YtpenicjlpiechaaDoor.Wd
set_option maxRecDepth 10000
open Go Go.RowKit
set_option linter.unusedVariables false
set_option linter.unusedSimpArgs false

set_option maxRecDepth 10000 in
set_option maxHeartbeats 16000000 in
theorem vround_a (t1 t2 t3 t4 r : Int) (w : World) (h0 : r < 0) :
    Calls Tryd.prog 12 #[.int .i64 t1, .int .i64 t2, .int .i64 t3, .int .i64 t4, .int .i64 r] w fun e w' => e = .returned (.tuple #[.agg (smc (0) (0) (0)).toArray, .int .i64 (1)]) ∧ Below w.heap.size w w' := by
  go_enter Tryd.func12, Tryd.ntmps12
  go_wp2_with (first
    | ((with_reducible refine at_allocD 10 28 ?_); refine L_alloc 28 (smc 0 0 0) zeroRs ?_; intro w1 t_ b_z; have l_z : w.heap.size ≤ w.heap.size := Nat.le_refl _; have hB : Below w.heap.size w w1 := t_.below (Below.refl _ _) (Nat.le_refl _); clear t_)
    | ((with_reducible refine at_binD 27 ?_); refine L_give (by rfl) (g_ilss 2 _ _ .i64 _ _ true rfl rfl (decide_eq_true h0) ?_))
    | ((with_reducible refine at_bld 42 ?_); refine L_give (by rfl) (g_bldRs_n ?_))
    | ((with_reducible refine at_storeX 10 28 ?_); refine L_store_all 28 _ _ (w.heap.size) (smc (0) (0) (0)) _ 28 rfl rfl b_z (szRs 0 0 0) (rfl) (one_smc _ _ _) ?_; have b0_z := b_z; clear b_z; intro w2 t_ b_z; replace hB := t_.below hB l_z; clear t_ b0_z))
  exact bodyPost_ret (results_blk_tmp rfl _ (smc (0) (0) (0)) (.int .i64 (1)) _ rfl rfl b_z Tryd.underlying28 rfl (szRs _ _ _)) rfl ⟨rfl, hB⟩

set_option maxRecDepth 10000 in
set_option maxHeartbeats 16000000 in
theorem vround_b (t1 t2 t3 t4 r : Int) (w : World) (h0 : ¬ r < 0) (h1 : 100000000 < r) :
    Calls Tryd.prog 12 #[.int .i64 t1, .int .i64 t2, .int .i64 t3, .int .i64 t4, .int .i64 r] w fun e w' => e = .returned (.tuple #[.agg (smc (0) (0) (0)).toArray, .int .i64 (1)]) ∧ Below w.heap.size w w' := by
  go_enter Tryd.func12, Tryd.ntmps12
  go_wp2_with (first
    | ((with_reducible refine at_allocD 10 28 ?_); refine L_alloc 28 (smc 0 0 0) zeroRs ?_; intro w1 t_ b_z; have l_z : w.heap.size ≤ w.heap.size := Nat.le_refl _; have hB : Below w.heap.size w w1 := t_.below (Below.refl _ _) (Nat.le_refl _); clear t_)
    | ((with_reducible refine at_binD 27 ?_); refine L_give (by rfl) (g_ilss 2 _ _ .i64 _ _ false rfl rfl (decide_eq_false h0) ?_))
    | ((with_reducible refine at_binD 30 ?_); refine L_give (by rfl) (g_igtr 2 _ _ .i64 _ _ true rfl rfl (decide_eq_true h1) ?_))
    | ((with_reducible refine at_bld 42 ?_); refine L_give (by rfl) (g_bldRs_n ?_))
    | ((with_reducible refine at_storeX 10 28 ?_); refine L_store_all 28 _ _ (w.heap.size) (smc (0) (0) (0)) _ 28 rfl rfl b_z (szRs 0 0 0) (rfl) (one_smc _ _ _) ?_; have b0_z := b_z; clear b_z; intro w2 t_ b_z; replace hB := t_.below hB l_z; clear t_ b0_z))
  exact bodyPost_ret (results_blk_tmp rfl _ (smc (0) (0) (0)) (.int .i64 (1)) _ rfl rfl b_z Tryd.underlying28 rfl (szRs _ _ _)) rfl ⟨rfl, hB⟩

set_option maxRecDepth 10000 in
set_option maxHeartbeats 16000000 in
theorem vround_c (t1 t2 t3 t4 r : Int) (w : World) (h0 : ¬ r < 0) (h1 : ¬ 100000000 < r) (h2 : t4 < t1) :
    Calls Tryd.prog 12 #[.int .i64 t1, .int .i64 t2, .int .i64 t3, .int .i64 t4, .int .i64 r] w fun e w' => e = .returned (.tuple #[.agg (smc (0) (0) (0)).toArray, .int .i64 (1)]) ∧ Below w.heap.size w w' := by
  go_enter Tryd.func12, Tryd.ntmps12
  go_wp2_with (first
    | ((with_reducible refine at_allocD 10 28 ?_); refine L_alloc 28 (smc 0 0 0) zeroRs ?_; intro w1 t_ b_z; have l_z : w.heap.size ≤ w.heap.size := Nat.le_refl _; have hB : Below w.heap.size w w1 := t_.below (Below.refl _ _) (Nat.le_refl _); clear t_)
    | ((with_reducible refine at_binD 27 ?_); refine L_give (by rfl) (g_ilss 2 _ _ .i64 _ _ false rfl rfl (decide_eq_false h0) ?_))
    | ((with_reducible refine at_binD 30 ?_); refine L_give (by rfl) (g_igtr 2 _ _ .i64 _ _ false rfl rfl (decide_eq_false h1) ?_))
    | ((with_reducible refine at_binD 35 ?_); refine L_give (by rfl) (g_ilss 2 _ _ .i64 _ _ true rfl rfl (decide_eq_true h2) ?_))
    | ((with_reducible refine at_bld 42 ?_); refine L_give (by rfl) (g_bldRs_n ?_))
    | ((with_reducible refine at_storeX 10 28 ?_); refine L_store_all 28 _ _ (w.heap.size) (smc (0) (0) (0)) _ 28 rfl rfl b_z (szRs 0 0 0) (rfl) (one_smc _ _ _) ?_; have b0_z := b_z; clear b_z; intro w2 t_ b_z; replace hB := t_.below hB l_z; clear t_ b0_z))
  exact bodyPost_ret (results_blk_tmp rfl _ (smc (0) (0) (0)) (.int .i64 (1)) _ rfl rfl b_z Tryd.underlying28 rfl (szRs _ _ _)) rfl ⟨rfl, hB⟩

set_option maxRecDepth 10000 in
set_option maxHeartbeats 16000000 in
theorem vround_d (t1 t2 t3 t4 r : Int) (w : World) (h0 : ¬ r < 0) (h1 : ¬ 100000000 < r) (h2 : ¬ t4 < t1) (h3 : t3 < t2) :
    Calls Tryd.prog 12 #[.int .i64 t1, .int .i64 t2, .int .i64 t3, .int .i64 t4, .int .i64 r] w fun e w' => e = .returned (.tuple #[.agg (smc (0) (0) (0)).toArray, .int .i64 (1)]) ∧ Below w.heap.size w w' := by
  go_enter Tryd.func12, Tryd.ntmps12
  go_wp2_with (first
    | ((with_reducible refine at_allocD 10 28 ?_); refine L_alloc 28 (smc 0 0 0) zeroRs ?_; intro w1 t_ b_z; have l_z : w.heap.size ≤ w.heap.size := Nat.le_refl _; have hB : Below w.heap.size w w1 := t_.below (Below.refl _ _) (Nat.le_refl _); clear t_)
    | ((with_reducible refine at_binD 27 ?_); refine L_give (by rfl) (g_ilss 2 _ _ .i64 _ _ false rfl rfl (decide_eq_false h0) ?_))
    | ((with_reducible refine at_binD 30 ?_); refine L_give (by rfl) (g_igtr 2 _ _ .i64 _ _ false rfl rfl (decide_eq_false h1) ?_))
    | ((with_reducible refine at_binD 35 ?_); refine L_give (by rfl) (g_ilss 2 _ _ .i64 _ _ false rfl rfl (decide_eq_false h2) ?_))
    | ((with_reducible refine at_binD 40 ?_); refine L_give (by rfl) (g_ilss 2 _ _ .i64 _ _ true rfl rfl (decide_eq_true h3) ?_))
    | ((with_reducible refine at_bld 42 ?_); refine L_give (by rfl) (g_bldRs_n ?_))
    | ((with_reducible refine at_storeX 10 28 ?_); refine L_store_all 28 _ _ (w.heap.size) (smc (0) (0) (0)) _ 28 rfl rfl b_z (szRs 0 0 0) (rfl) (one_smc _ _ _) ?_; have b0_z := b_z; clear b_z; intro w2 t_ b_z; replace hB := t_.below hB l_z; clear t_ b0_z))
  exact bodyPost_ret (results_blk_tmp rfl _ (smc (0) (0) (0)) (.int .i64 (1)) _ rfl rfl b_z Tryd.underlying28 rfl (szRs _ _ _)) rfl ⟨rfl, hB⟩

set_option maxRecDepth 10000 in
set_option maxHeartbeats 16000000 in
theorem vround_l (t1 t2 t3 t4 r A B X Y D S D1 M : Int) (w : World) (hrOk : rOk t1 t2 t3 t4 r) (h0 : ¬ r < 0) (h1 : ¬ 100000000 < r) (h2 : ¬ t4 < t1) (h3 : ¬ t3 < t2) (i1 : In64 t1) (i2 : In64 t2) (i3 : In64 t3) (i4 : In64 t4) (hA : Hid (t4 + -t1 = A)) (hB_ : Hid (t3 + -t2 = B)) (hX : Hid (t2 + -t1 = X)) (hY : Hid (t3 + -t4 = Y)) (hD : Hid (A + -B = D)) (hS : Hid (X + Y = S)) (hD1 : Hid (D + 1 = D1)) (hM : Hid (IntKind.i64.wrap (2 * r) = M)) (fA : Few A 200) (fB : Few B 200) (fnB : Few (-B) 200) (fX : Few X 200) (fY : Few Y 200) (fD : Few D 200) (fS : Few S 200) (fO : Few (S / 2) 200) (fD1 : Few D1 200) (fU : Few (D1 / 2) 200) (j1 : In64 1) (j2 : In64 2) (f1 : Few 1 200) (f2 : Few 2 200) :
    Calls Tryd.prog 12 #[.int .i64 t1, .int .i64 t2, .int .i64 t3, .int .i64 t4, .int .i64 r] w fun e w' => ∃ R, vrd t1 t2 t3 t4 r = R ∧ e = .returned (.tuple #[.agg (smc R.1.1 R.1.2.1 R.1.2.2).toArray, .int .i64 R.2]) ∧ Below w.heap.size w w' := by
  go_enter Tryd.func12, Tryd.ntmps12
  (try simp only [List.append_eq, List.cons_append, List.nil_append])
  go_wp2_with (first
    | ((with_reducible refine at_allocD 10 28 ?_); refine L_alloc 28 (smc 0 0 0) zeroRs ?_; intro w1 t_ b_z; have l_z : w.heap.size ≤ w.heap.size := Nat.le_refl _; have hB : Below w.heap.size w w1 := t_.below (Below.refl _ _) (Nat.le_refl _); clear t_)
    | ((with_reducible refine at_binD 27 ?_); refine L_give (by rfl) (g_ilss 2 _ _ .i64 _ _ false rfl rfl (decide_eq_false h0) ?_))
    | ((with_reducible refine at_binD 30 ?_); refine L_give (by rfl) (g_igtr 2 _ _ .i64 _ _ false rfl rfl (decide_eq_false h1) ?_))
    | ((with_reducible refine at_binD 35 ?_); refine L_give (by rfl) (g_ilss 2 _ _ .i64 _ _ false rfl rfl (decide_eq_false h2) ?_))
    | ((with_reducible refine at_binD 40 ?_); refine L_give (by rfl) (g_ilss 2 _ _ .i64 _ _ false rfl rfl (decide_eq_false h3) ?_)))
  refine (vless_any t4 t1 A w1 i4 i1 hA).mono ?_
  rintro e w2 ⟨_, rfl, ⟨s_n45, v_n45, rfl, r_n45⟩, t_⟩
  replace b_z := b_z.below t_ b_z.lt
  replace hB := hB.trans (t_.mono hB.size)
  clear t_
  go_wp2_with (first
    | ((with_reducible refine at_allocD 12 72 ?_); refine L_alloc 72 ([.bool false, .slice none 0 0]) zeroR ?_; intro w3 t_ b_a; have l_a : w.heap.size ≤ w2.heap.size := hB.size; have o_a := b_z.lt; replace r_n45 := r_n45.below t_.toBelow; replace b_z := t_.blk b_z (by omega); replace hB := t_.below hB l_a; clear t_)
    | ((with_reducible refine at_storeX 12 72 ?_); refine L_store_all 72 _ _ (w2.heap.size) ([.bool s_n45, v_n45]) _ 72 rfl rfl b_a (szR) (rfl) (one_rc _ _ r_n45.sl) ?_; have b0_a := b_a; clear b_a; intro w4 t_ b_a; replace r_n45 := r_n45.turn t_ b0_a (by decide); replace b_z := t_.blk b_z (by omega); replace hB := t_.below hB l_a; clear t_ b0_a))
  refine (vless_any t3 t2 B w4 i3 i2 hB_).mono ?_
  rintro e w5 ⟨_, rfl, ⟨s_n48, v_n48, rfl, r_n48⟩, t_⟩
  replace r_n45 := r_n45.below t_
  replace b_z := b_z.below t_ b_z.lt
  replace b_a := b_a.below t_ b_a.lt
  replace hB := hB.trans (t_.mono hB.size)
  clear t_
  go_wp2_with (first
    | ((with_reducible refine at_allocD 13 72 ?_); refine L_alloc 72 ([.bool false, .slice none 0 0]) zeroR ?_; intro w6 t_ b_b; have l_b : w.heap.size ≤ w5.heap.size := hB.size; have o_b := b_a.lt; replace r_n45 := r_n45.below t_.toBelow; replace r_n48 := r_n48.below t_.toBelow; replace b_z := t_.blk b_z (by omega); replace b_a := t_.blk b_a (by omega); replace hB := t_.below hB l_b; clear t_)
    | ((with_reducible refine at_storeX 13 72 ?_); refine L_store_all 72 _ _ (w5.heap.size) ([.bool s_n48, v_n48]) _ 72 rfl rfl b_b (szR) (rfl) (one_rc _ _ r_n48.sl) ?_; have b0_b := b_b; clear b_b; intro w7 t_ b_b; replace r_n45 := r_n45.turn t_ b0_b (by decide); replace r_n48 := r_n48.turn t_ b0_b (by decide); replace b_z := t_.blk b_z (by omega); replace b_a := t_.blk b_a (by omega); replace hB := t_.below hB l_b; clear t_ b0_b))
  refine (vless_any t2 t1 X w7 i2 i1 hX).mono ?_
  rintro e w8 ⟨_, rfl, ⟨s_n51, v_n51, rfl, r_n51⟩, t_⟩
  replace r_n45 := r_n45.below t_
  replace r_n48 := r_n48.below t_
  replace b_z := b_z.below t_ b_z.lt
  replace b_a := b_a.below t_ b_a.lt
  replace b_b := b_b.below t_ b_b.lt
  replace hB := hB.trans (t_.mono hB.size)
  clear t_
  go_wp2_with (first
    | ((with_reducible refine at_allocD 14 72 ?_); refine L_alloc 72 ([.bool false, .slice none 0 0]) zeroR ?_; intro w9 t_ b_x; have l_x : w.heap.size ≤ w8.heap.size := hB.size; have o_x := b_b.lt; replace r_n45 := r_n45.below t_.toBelow; replace r_n48 := r_n48.below t_.toBelow; replace r_n51 := r_n51.below t_.toBelow; replace b_z := t_.blk b_z (by omega); replace b_a := t_.blk b_a (by omega); replace b_b := t_.blk b_b (by omega); replace hB := t_.below hB l_x; clear t_)
    | ((with_reducible refine at_storeX 14 72 ?_); refine L_store_all 72 _ _ (w8.heap.size) ([.bool s_n51, v_n51]) _ 72 rfl rfl b_x (szR) (rfl) (one_rc _ _ r_n51.sl) ?_; have b0_x := b_x; clear b_x; intro w10 t_ b_x; replace r_n45 := r_n45.turn t_ b0_x (by decide); replace r_n48 := r_n48.turn t_ b0_x (by decide); replace r_n51 := r_n51.turn t_ b0_x (by decide); replace b_z := t_.blk b_z (by omega); replace b_a := t_.blk b_a (by omega); replace b_b := t_.blk b_b (by omega); replace hB := t_.below hB l_x; clear t_ b0_x))
  refine (vless_any t3 t4 Y w10 i3 i4 hY).mono ?_
  rintro e w11 ⟨_, rfl, ⟨s_n54, v_n54, rfl, r_n54⟩, t_⟩
  replace r_n45 := r_n45.below t_
  replace r_n48 := r_n48.below t_
  replace r_n51 := r_n51.below t_
  replace b_z := b_z.below t_ b_z.lt
  replace b_a := b_a.below t_ b_a.lt
  replace b_b := b_b.below t_ b_b.lt
  replace b_x := b_x.below t_ b_x.lt
  replace hB := hB.trans (t_.mono hB.size)
  clear t_
  go_wp2_with (first
    | ((with_reducible refine at_allocD 15 72 ?_); refine L_alloc 72 ([.bool false, .slice none 0 0]) zeroR ?_; intro w12 t_ b_y; have l_y : w.heap.size ≤ w11.heap.size := hB.size; have o_y := b_x.lt; replace r_n45 := r_n45.below t_.toBelow; replace r_n48 := r_n48.below t_.toBelow; replace r_n51 := r_n51.below t_.toBelow; replace r_n54 := r_n54.below t_.toBelow; replace b_z := t_.blk b_z (by omega); replace b_a := t_.blk b_a (by omega); replace b_b := t_.blk b_b (by omega); replace b_x := t_.blk b_x (by omega); replace hB := t_.below hB l_y; clear t_)
    | ((with_reducible refine at_storeX 15 72 ?_); refine L_store_all 72 _ _ (w11.heap.size) ([.bool s_n54, v_n54]) _ 72 rfl rfl b_y (szR) (rfl) (one_rc _ _ r_n54.sl) ?_; have b0_y := b_y; clear b_y; intro w13 t_ b_y; replace r_n45 := r_n45.turn t_ b0_y (by decide); replace r_n48 := r_n48.turn t_ b0_y (by decide); replace r_n51 := r_n51.turn t_ b0_y (by decide); replace r_n54 := r_n54.turn t_ b0_y (by decide); replace b_z := t_.blk b_z (by omega); replace b_a := t_.blk b_a (by omega); replace b_b := t_.blk b_b (by omega); replace b_x := t_.blk b_x (by omega); replace hB := t_.below hB l_y; clear t_ b0_y)
    | ((with_reducible refine stop_region 7 ?_); intro X1 hX1))
  refine hX1.out ?_
  clear hX1
  refine wp_region_inv (by kernel_rfl) (by kernel_rfl) (fun t v wx => Below w13.heap.size w13 wx ∧ (t 0 = true → v 0 = .agg #[.bool s_n45, v_n45]) ∧ (t 1 = true → v 1 = .agg #[.bool s_n48, v_n48]) ∧ (t 2 = true → RN wx (v 2) (-B)) ∧ (t 3 = true → RN wx (v 3) (D)) ∧ (t 4 = true → ∃ p, v 4 = .pointer (some ⟨p, 0, none⟩) ∧ p < wx.heap.size ∧ w13.heap.size ≤ p ∧ (t 5 = false → Blk wx p [.bool false, .slice none 0 0] 72) ∧ (t 5 = true → RA wx p (D))) ∧ (t 5 = true → t 4 = true)) ?_ ?_ ?_
  · exact ⟨(Below.refl _ _).drew, (fun h => by cases h), (fun h => by cases h), (fun h => by cases h), (fun h => by cases h), (fun h => by cases h), (fun h => by cases h)⟩
  · simp only [full, Act.put, List.setIfInBounds_toArray, List.set_cons_succ, List.set_cons_zero, Nat.zero_add, Nat.reduceAdd]
    intro i o ho t v wx hS hti hall
    obtain ⟨hC, k0, k1, k2, k3, k4, k5⟩ := hS
    rcases i with _ | _ | _ | _ | _ | _ | i
    · obtain rfl := Option.some.inj ho
      refine g_load_all 72 _ (w2.heap.size) ([.bool s_n45, v_n45]) 72 _ rfl (b_a.below hC b_a.lt) Tryd.underlying72 rfl (szR) ?_
      exact ⟨hC, newE rfl, keepE (by decide) k1, (fun h => by rw [setB_other _ _ _ (by decide)] at h; rw [setV_other _ _ _ _ (by decide)]; exact k2 h), (fun h => by rw [setB_other _ _ _ (by decide)] at h; rw [setV_other _ _ _ _ (by decide)]; exact k3 h), (fun h => by rw [setB_other _ _ _ (by decide)] at h; obtain ⟨p, e1, e2, e4, e3, e5⟩ := k4 h; refine ⟨p, by rw [setV_other _ _ _ _ (by decide)]; exact e1, e2, e4, fun h5 => ?_, fun h5 => ?_⟩ <;> rw [setB_other _ _ _ (by decide)] at h5 <;> first | exact e3 h5 | exact e5 h5), (fun h => by rw [setB_other _ _ _ (by decide)] at h ⊢; exact k5 h)⟩
    · obtain rfl := Option.some.inj ho
      refine g_load_all 72 _ (w5.heap.size) ([.bool s_n48, v_n48]) 72 _ rfl (b_b.below hC b_b.lt) Tryd.underlying72 rfl (szR) ?_
      exact ⟨hC, keepE (by decide) k0, newE rfl, (fun h => by rw [setB_other _ _ _ (by decide)] at h; rw [setV_other _ _ _ _ (by decide)]; exact k2 h), (fun h => by rw [setB_other _ _ _ (by decide)] at h; rw [setV_other _ _ _ _ (by decide)]; exact k3 h), (fun h => by rw [setB_other _ _ _ (by decide)] at h; obtain ⟨p, e1, e2, e4, e3, e5⟩ := k4 h; refine ⟨p, by rw [setV_other _ _ _ _ (by decide)]; exact e1, e2, e4, fun h5 => ?_, fun h5 => ?_⟩ <;> rw [setB_other _ _ _ (by decide)] at h5 <;> first | exact e3 h5 | exact e5 h5), (fun h => by rw [setB_other _ _ _ (by decide)] at h ⊢; exact k5 h)⟩
    · obtain rfl := Option.some.inj ho
      have d1 := k1 (hall ⟨1, .data⟩ (by simp) rfl)
      refine g_call 34 _ _ [.agg #[.bool s_n48, v_n48]] (kf34 _ _) (by show ([v 1] : List Value) = _; rw [d1]; (try rfl)) ((less_any _ B wx ⟨_, _, rfl, r_n48.below hC⟩ fB).mono ?_)
      rintro e w' ⟨u_, rfl, hp, hb⟩
      exact ⟨_, rfl, hC.trans (hb.mono hC.size), keepE (by decide) k0, keepE (by decide) k1, (fun _ => by rw [setV_self]; exact hp), (fun h => by rw [setB_other _ _ _ (by decide)] at h; rw [setV_other _ _ _ _ (by decide)]; exact (k3 h).below hb), (fun h => by rw [setB_other _ _ _ (by decide)] at h; obtain ⟨p, e1, e2, e4, e3, e5⟩ := k4 h; refine ⟨p, by rw [setV_other _ _ _ _ (by decide)]; exact e1, Nat.lt_of_lt_of_le e2 hb.size, e4, fun h5 => ?_, fun h5 => ?_⟩ <;> rw [setB_other _ _ _ (by decide)] at h5 <;> first | exact (e3 h5).below hb e2 | exact (e5 h5).below hb), (fun h => by rw [setB_other _ _ _ (by decide)] at h ⊢; exact k5 h)⟩
    · obtain rfl := Option.some.inj ho
      have d0 := k0 (hall ⟨0, .data⟩ (by simp) rfl)
      have d2 := k2 (hall ⟨2, .data⟩ (by simp) rfl)
      refine g_call 33 _ _ [.agg #[.bool s_n45, v_n45], v 2] (kf33 _ _) (by show ([v 0, v 2] : List Value) = _; rw [d0]; (try rfl)) ((radd_any _ _ A (-B) D wx ⟨_, _, rfl, r_n45.below hC⟩ d2 fA fnB hD).mono ?_)
      rintro e w' ⟨u_, rfl, hp, hb⟩
      exact ⟨_, rfl, hC.trans (hb.mono hC.size), keepE (by decide) k0, keepE (by decide) k1, (fun h => by rw [setB_other _ _ _ (by decide)] at h; rw [setV_other _ _ _ _ (by decide)]; exact (k2 h).below hb), (fun _ => by rw [setV_self]; exact hp), (fun h => by rw [setB_other _ _ _ (by decide)] at h; obtain ⟨p, e1, e2, e4, e3, e5⟩ := k4 h; refine ⟨p, by rw [setV_other _ _ _ _ (by decide)]; exact e1, Nat.lt_of_lt_of_le e2 hb.size, e4, fun h5 => ?_, fun h5 => ?_⟩ <;> rw [setB_other _ _ _ (by decide)] at h5 <;> first | exact (e3 h5).below hb e2 | exact (e5 h5).below hb), (fun h => by rw [setB_other _ _ _ (by decide)] at h ⊢; exact k5 h)⟩
    · obtain rfl := Option.some.inj ho
      refine g_alloc 72 _ zeroR (fun w' h1 h2 => ?_)
      have hb := h1.toBelow
      exact ⟨hC.trans (hb.mono hC.size), keepE (by decide) k0, keepE (by decide) k1, (fun h => by rw [setB_other _ _ _ (by decide)] at h; rw [setV_other _ _ _ _ (by decide)]; exact (k2 h).below hb), (fun h => by rw [setB_other _ _ _ (by decide)] at h; rw [setV_other _ _ _ _ (by decide)]; exact (k3 h).below hb), (fun _ => ⟨wx.heap.size, setV_self _ _ _, h2.lt, hC.size, fun _ => h2, fun h => by rw [setB_other _ _ _ (by decide)] at h; have := k5 h; rw [hti] at this; cases this⟩), (fun _ => setB_self _ _)⟩
    · obtain rfl := Option.some.inj ho
      have ht_ := hall ⟨4, .data⟩ (by simp) rfl
      obtain ⟨p, e1, e2, e4, e3, e5⟩ := k4 ht_
      obtain ⟨s8, b8, e8, r8⟩ := k3 (hall ⟨3, .data⟩ (by simp) rfl)
      refine g_store_all 72 _ _ p [.bool s8, b8] _ 72 (show v 4 = _ from e1) (show v 3 = _ from e8) (e3 hti) szR rfl (one_rc _ _ r8.sl) (fun w' h1 h2 => ?_)
      exact ⟨h1.below hC e4, keepE (by decide) k0, keepE (by decide) k1, (fun h => by rw [setB_other _ _ _ (by decide)] at h; rw [setV_other _ _ _ _ (by decide)]; exact (k2 h).turn h1 (e3 hti) (by decide)), (fun h => by rw [setB_other _ _ _ (by decide)] at h; rw [setV_other _ _ _ _ (by decide)]; exact (k3 h).turn h1 (e3 hti) (by decide)), (fun h => ⟨p, by rw [setV_other _ _ _ _ (by decide)]; exact e1, Nat.lt_of_lt_of_le e2 h1.size, e4, (fun h => by have := setB_self t 5; rw [h] at this; cases this), fun _ => ⟨_, _, h2, r8.turn h1 (e3 hti) (by decide)⟩⟩), (fun _ => by rw [setB_other _ _ _ (by decide)]; exact ht_)⟩
    · simp at ho
  · simp only [full, Act.put, List.setIfInBounds_toArray, List.set_cons_succ, List.set_cons_zero, Nat.zero_add, Nat.reduceAdd]
    intro t v w14 hS ht
    obtain ⟨hC, k0, k1, k2, k3, k4, k5⟩ := hS
    obtain ⟨p_d, e1, -, e4, -, e5⟩ := k4 (ht 4 (by decide))
    obtain ⟨s_d, v_d, b_d, r_d⟩ := e5 (ht 5 (by decide))
    rw [e1]
    have d0 := k0 (ht 0 (by decide)); (try rw [d0])
    clear d0
    have d1 := k1 (ht 1 (by decide)); (try rw [d1])
    clear d1
    clear ht k0 k1 k2 k3 k4 k5 e1 e5
    generalize v 2 = y1_2
    generalize v 3 = y1_3
    generalize v 5 = y1_5
    have l_d : w.heap.size ≤ p_d := Nat.le_trans hB.size e4
    have o_d : w11.heap.size < p_d := Nat.lt_of_lt_of_le b_y.lt e4
    clear e4
    replace r_n45 := r_n45.below hC
    replace r_n48 := r_n48.below hC
    replace r_n51 := r_n51.below hC
    replace r_n54 := r_n54.below hC
    replace b_z := b_z.below hC b_z.lt
    replace b_a := b_a.below hC b_a.lt
    replace b_b := b_b.below hC b_b.lt
    replace b_x := b_x.below hC b_x.lt
    replace b_y := b_y.below hC b_y.lt
    replace hB := hB.trans (hC.mono hB.size)
    clear hC
    go_wp2_with (first
      | ((with_reducible refine at_loadD 60 72 ?_); refine L_load_all 72 _ (w8.heap.size) ([.bool s_n51, v_n51]) 72 _ rfl b_x Tryd.underlying72 rfl (szR) ?_)
      | ((with_reducible refine at_loadD 61 72 ?_); refine L_load_all 72 _ (w11.heap.size) ([.bool s_n54, v_n54]) 72 _ rfl b_y Tryd.underlying72 rfl (szR) ?_))
    refine (radd_any _ _ X Y S w14 ⟨_, _, rfl, r_n51⟩ ⟨_, _, rfl, r_n54⟩ fX fY hS).mono ?_
    rintro e w15 ⟨_, rfl, ⟨s_n62, v_n62, rfl, r_n62⟩, t_⟩
    replace r_n45 := r_n45.below t_
    replace r_n48 := r_n48.below t_
    replace r_n51 := r_n51.below t_
    replace r_n54 := r_n54.below t_
    replace r_d := r_d.below t_
    replace b_z := b_z.below t_ b_z.lt
    replace b_a := b_a.below t_ b_a.lt
    replace b_b := b_b.below t_ b_b.lt
    replace b_x := b_x.below t_ b_x.lt
    replace b_y := b_y.below t_ b_y.lt
    replace b_d := b_d.below t_ b_d.lt
    replace hB := hB.trans (t_.mono hB.size)
    clear t_
    go_wp2_with fail
    refine (rof_any 2 w15 j2).mono ?_
    rintro e w16 ⟨_, rfl, ⟨s_n63, v_n63, rfl, r_n63⟩, t_⟩
    replace r_n45 := r_n45.below t_
    replace r_n48 := r_n48.below t_
    replace r_n51 := r_n51.below t_
    replace r_n54 := r_n54.below t_
    replace r_d := r_d.below t_
    replace r_n62 := r_n62.below t_
    replace b_z := b_z.below t_ b_z.lt
    replace b_a := b_a.below t_ b_a.lt
    replace b_b := b_b.below t_ b_b.lt
    replace b_x := b_x.below t_ b_x.lt
    replace b_y := b_y.below t_ b_y.lt
    replace b_d := b_d.below t_ b_d.lt
    replace hB := hB.trans (t_.mono hB.size)
    clear t_
    go_wp2_with fail
    refine (rdiv_any _ _ S 2 w16 ⟨_, _, rfl, r_n62⟩ ⟨_, _, rfl, r_n63⟩ fS f2 (by omega)).mono ?_
    rintro e w17 ⟨_, _, rfl, ⟨s_n64a, v_n64a, rfl, r_n64a⟩, ⟨s_n64b, v_n64b, rfl, r_n64b⟩, t_⟩
    replace r_n45 := r_n45.below t_
    replace r_n48 := r_n48.below t_
    replace r_n51 := r_n51.below t_
    replace r_n54 := r_n54.below t_
    replace r_d := r_d.below t_
    replace r_n62 := r_n62.below t_
    replace r_n63 := r_n63.below t_
    replace b_z := b_z.below t_ b_z.lt
    replace b_a := b_a.below t_ b_a.lt
    replace b_b := b_b.below t_ b_b.lt
    replace b_x := b_x.below t_ b_x.lt
    replace b_y := b_y.below t_ b_y.lt
    replace b_d := b_d.below t_ b_d.lt
    replace hB := hB.trans (t_.mono hB.size)
    clear t_
    go_wp2_with (first
      | ((with_reducible refine at_allocD 17 72 ?_); refine L_alloc 72 ([.bool false, .slice none 0 0]) zeroR ?_; intro w18 t_ b_o; have l_o : w.heap.size ≤ w17.heap.size := hB.size; have o_o := b_d.lt; replace r_n45 := r_n45.below t_.toBelow; replace r_n48 := r_n48.below t_.toBelow; replace r_n51 := r_n51.below t_.toBelow; replace r_n54 := r_n54.below t_.toBelow; replace r_d := r_d.below t_.toBelow; replace r_n62 := r_n62.below t_.toBelow; replace r_n63 := r_n63.below t_.toBelow; replace r_n64a := r_n64a.below t_.toBelow; replace r_n64b := r_n64b.below t_.toBelow; replace b_z := t_.blk b_z (by omega); replace b_a := t_.blk b_a (by omega); replace b_b := t_.blk b_b (by omega); replace b_x := t_.blk b_x (by omega); replace b_y := t_.blk b_y (by omega); replace b_d := t_.blk b_d (by omega); replace hB := t_.below hB l_o; clear t_)
      | ((with_reducible refine at_allocD 18 72 ?_); refine L_alloc 72 ([.bool false, .slice none 0 0]) zeroR ?_; intro w19 t_ b_o2; have l_o2 : w.heap.size ≤ w18.heap.size := hB.size; have o_o2 := b_o.lt; replace r_n45 := r_n45.below t_.toBelow; replace r_n48 := r_n48.below t_.toBelow; replace r_n51 := r_n51.below t_.toBelow; replace r_n54 := r_n54.below t_.toBelow; replace r_d := r_d.below t_.toBelow; replace r_n62 := r_n62.below t_.toBelow; replace r_n63 := r_n63.below t_.toBelow; replace r_n64a := r_n64a.below t_.toBelow; replace r_n64b := r_n64b.below t_.toBelow; replace b_z := t_.blk b_z (by omega); replace b_a := t_.blk b_a (by omega); replace b_b := t_.blk b_b (by omega); replace b_x := t_.blk b_x (by omega); replace b_y := t_.blk b_y (by omega); replace b_d := t_.blk b_d (by omega); replace b_o := t_.blk b_o (by omega); replace hB := t_.below hB l_o2; clear t_)
      | ((with_reducible refine at_storeX 17 72 ?_); refine L_store_all 72 _ _ (w17.heap.size) ([.bool s_n64a, v_n64a]) _ 72 rfl rfl b_o (szR) (rfl) (one_rc _ _ r_n64a.sl) ?_; have b0_o := b_o; clear b_o; intro w20 t_ b_o; replace r_n45 := r_n45.turn t_ b0_o (by decide); replace r_n48 := r_n48.turn t_ b0_o (by decide); replace r_n51 := r_n51.turn t_ b0_o (by decide); replace r_n54 := r_n54.turn t_ b0_o (by decide); replace r_d := r_d.turn t_ b0_o (by decide); replace r_n62 := r_n62.turn t_ b0_o (by decide); replace r_n63 := r_n63.turn t_ b0_o (by decide); replace r_n64a := r_n64a.turn t_ b0_o (by decide); replace r_n64b := r_n64b.turn t_ b0_o (by decide); replace b_z := t_.blk b_z (by omega); replace b_a := t_.blk b_a (by omega); replace b_b := t_.blk b_b (by omega); replace b_x := t_.blk b_x (by omega); replace b_y := t_.blk b_y (by omega); replace b_d := t_.blk b_d (by omega); replace b_o2 := t_.blk b_o2 (by omega); replace hB := t_.below hB l_o; clear t_ b0_o)
      | ((with_reducible refine at_storeX 18 72 ?_); refine L_store_all 72 _ _ (w18.heap.size) ([.bool s_n64b, v_n64b]) _ 72 rfl rfl b_o2 (szR) (rfl) (one_rc _ _ r_n64b.sl) ?_; have b0_o2 := b_o2; clear b_o2; intro w21 t_ b_o2; replace r_n45 := r_n45.turn t_ b0_o2 (by decide); replace r_n48 := r_n48.turn t_ b0_o2 (by decide); replace r_n51 := r_n51.turn t_ b0_o2 (by decide); replace r_n54 := r_n54.turn t_ b0_o2 (by decide); replace r_d := r_d.turn t_ b0_o2 (by decide); replace r_n62 := r_n62.turn t_ b0_o2 (by decide); replace r_n63 := r_n63.turn t_ b0_o2 (by decide); replace r_n64a := r_n64a.turn t_ b0_o2 (by decide); replace r_n64b := r_n64b.turn t_ b0_o2 (by decide); replace b_z := t_.blk b_z (by omega); replace b_a := t_.blk b_a (by omega); replace b_b := t_.blk b_b (by omega); replace b_x := t_.blk b_x (by omega); replace b_y := t_.blk b_y (by omega); replace b_d := t_.blk b_d (by omega); replace b_o := t_.blk b_o (by omega); replace hB := t_.below hB l_o2; clear t_ b0_o2)
      | ((with_reducible refine stop_region 9 ?_); intro X2 hX2))
    refine hX2.out ?_
    clear hX2
    have hB0 : w21.heap.size ≤ w21.heap.size := Nat.le_refl _
    have lt_z := b_z.lt
    have lt_a := b_a.lt
    have lt_b := b_b.lt
    have lt_x := b_x.lt
    have lt_y := b_y.lt
    have lt_d := b_d.lt
    have lt_o := b_o.lt
    have lt_o2 := b_o2.lt
    refine wp_region_inv (by kernel_rfl) (by kernel_rfl) (fun t v wx => Below w21.heap.size w21 wx ∧ (t 0 = true → v 0 = .agg #[.bool s_d, v_d]) ∧ (t 1 = true → RN wx (v 1) (1)) ∧ (t 2 = true → RN wx (v 2) (D1)) ∧ (t 3 = true → RN wx (v 3) (2)) ∧ (t 4 = true → RP wx (v 4) (D1 / 2) (D1 % 2)) ∧ (t 5 = true → RP wx (v 5) (D1 / 2) (D1 % 2)) ∧ (t 6 = true → RN wx (v 6) (D1 / 2)) ∧ (t 7 = true → RN wx (v 7) (D1 % 2)) ∧ (t 8 = true → ∃ p, v 8 = .pointer (some ⟨p, 0, none⟩) ∧ p < wx.heap.size ∧ w21.heap.size ≤ p ∧ (t 10 = false → Blk wx p [.bool false, .slice none 0 0] 72) ∧ (t 10 = true → RA wx (p) (D1 / 2))) ∧ (t 9 = true → ∃ p, v 9 = .pointer (some ⟨p, 0, none⟩) ∧ p < wx.heap.size ∧ w21.heap.size ≤ p ∧ (t 11 = false → Blk wx p [.bool false, .slice none 0 0] 72) ∧ (t 11 = true → RA wx (p) (D1 % 2))) ∧ (t 10 = true → t 8 = true) ∧ (t 11 = true → t 9 = true) ∧ (t 8 = true → t 9 = true → v 8 ≠ v 9)) ?_ ?_ ?_
    · exact ⟨(Below.refl _ _).drew, (fun h => by cases h), (fun h => by cases h), (fun h => by cases h), (fun h => by cases h), (fun h => by cases h), (fun h => by cases h), (fun h => by cases h), (fun h => by cases h), (fun h => by cases h), (fun h => by cases h), (fun h => by cases h), (fun h => by cases h), (fun h => by cases h)⟩
    · simp only [full, Act.put, List.setIfInBounds_toArray, List.set_cons_succ, List.set_cons_zero, Nat.zero_add, Nat.reduceAdd]
      intro i o ho t v wx hS hti hall
      obtain ⟨hC, k0, k1, k2, k3, k4, k5, k6, k7, k8, k9, k10, k11, n8_9⟩ := hS
      have hnw : w21.heap.size ≤ wx.heap.size := Nat.le_trans hB0 hC.size
      rcases i with _ | _ | _ | _ | _ | _ | _ | _ | _ | _ | _ | _ | i
      · obtain rfl := Option.some.inj ho
        refine g_load_all 72 _ (p_d) ([.bool s_d, v_d]) 72 _ rfl (b_d.below hC b_d.lt) Tryd.underlying72 rfl (szR) ?_
        exact ⟨hC, newE rfl, (fun h => by rw [setB_other _ _ _ (by decide)] at h; rw [setV_other _ _ _ _ (by decide)]; exact k1 h), (fun h => by rw [setB_other _ _ _ (by decide)] at h; rw [setV_other _ _ _ _ (by decide)]; exact k2 h), (fun h => by rw [setB_other _ _ _ (by decide)] at h; rw [setV_other _ _ _ _ (by decide)]; exact k3 h), (fun h => by rw [setB_other _ _ _ (by decide)] at h; rw [setV_other _ _ _ _ (by decide)]; exact k4 h), (fun h => by rw [setB_other _ _ _ (by decide)] at h; rw [setV_other _ _ _ _ (by decide)]; exact k5 h), (fun h => by rw [setB_other _ _ _ (by decide)] at h; rw [setV_other _ _ _ _ (by decide)]; exact k6 h), (fun h => by rw [setB_other _ _ _ (by decide)] at h; rw [setV_other _ _ _ _ (by decide)]; exact k7 h), (fun h => by rw [setB_other _ _ _ (by decide)] at h; obtain ⟨p', f1, f2, f4, f3, f5⟩ := k8 h; refine ⟨p', by rw [setV_other _ _ _ _ (by decide)]; exact f1, f2, f4, fun h5 => ?_, fun h5 => ?_⟩ <;> rw [setB_other _ _ _ (by decide)] at h5 <;> first | exact f3 h5 | exact f5 h5), (fun h => by rw [setB_other _ _ _ (by decide)] at h; obtain ⟨p', f1, f2, f4, f3, f5⟩ := k9 h; refine ⟨p', by rw [setV_other _ _ _ _ (by decide)]; exact f1, f2, f4, fun h5 => ?_, fun h5 => ?_⟩ <;> rw [setB_other _ _ _ (by decide)] at h5 <;> first | exact f3 h5 | exact f5 h5), (fun h => by rw [setB_other _ _ _ (by decide)] at h ⊢; exact k10 h), (fun h => by rw [setB_other _ _ _ (by decide)] at h ⊢; exact k11 h), (fun h h' => by rw [setB_other _ _ _ (by decide)] at h h'; rw [setV_other _ _ _ _ (by decide), setV_other _ _ _ _ (by decide)]; exact n8_9 h h')⟩
      · obtain rfl := Option.some.inj ho
        refine g_call 36 _ _ [.int .i64 (1)] (kf36 _ _) (rfl) ((rof_any 1 wx j1).mono ?_)
        rintro e w' ⟨u_, rfl, hp, hb⟩
        exact ⟨_, rfl, hC.trans (hb.mono hnw), keepE (by decide) k0, (fun _ => by rw [setV_self]; exact hp), (fun h => by rw [setB_other _ _ _ (by decide)] at h; rw [setV_other _ _ _ _ (by decide)]; exact (k2 h).below hb), (fun h => by rw [setB_other _ _ _ (by decide)] at h; rw [setV_other _ _ _ _ (by decide)]; exact (k3 h).below hb), (fun h => by rw [setB_other _ _ _ (by decide)] at h; rw [setV_other _ _ _ _ (by decide)]; exact (k4 h).below hb), (fun h => by rw [setB_other _ _ _ (by decide)] at h; rw [setV_other _ _ _ _ (by decide)]; exact (k5 h).below hb), (fun h => by rw [setB_other _ _ _ (by decide)] at h; rw [setV_other _ _ _ _ (by decide)]; exact (k6 h).below hb), (fun h => by rw [setB_other _ _ _ (by decide)] at h; rw [setV_other _ _ _ _ (by decide)]; exact (k7 h).below hb), (fun h => by rw [setB_other _ _ _ (by decide)] at h; obtain ⟨p', f1, f2, f4, f3, f5⟩ := k8 h; refine ⟨p', by rw [setV_other _ _ _ _ (by decide)]; exact f1, Nat.lt_of_lt_of_le f2 hb.size, f4, fun h5 => ?_, fun h5 => ?_⟩ <;> rw [setB_other _ _ _ (by decide)] at h5 <;> first | exact (f3 h5).below hb f2 | exact (f5 h5).below hb), (fun h => by rw [setB_other _ _ _ (by decide)] at h; obtain ⟨p', f1, f2, f4, f3, f5⟩ := k9 h; refine ⟨p', by rw [setV_other _ _ _ _ (by decide)]; exact f1, Nat.lt_of_lt_of_le f2 hb.size, f4, fun h5 => ?_, fun h5 => ?_⟩ <;> rw [setB_other _ _ _ (by decide)] at h5 <;> first | exact (f3 h5).below hb f2 | exact (f5 h5).below hb), (fun h => by rw [setB_other _ _ _ (by decide)] at h ⊢; exact k10 h), (fun h => by rw [setB_other _ _ _ (by decide)] at h ⊢; exact k11 h), (fun h h' => by rw [setB_other _ _ _ (by decide)] at h h'; rw [setV_other _ _ _ _ (by decide), setV_other _ _ _ _ (by decide)]; exact n8_9 h h')⟩
      · obtain rfl := Option.some.inj ho
        have d0 := k0 (hall ⟨0, .data⟩ (by simp) rfl)
        have d1 := k1 (hall ⟨1, .data⟩ (by simp) rfl)
        refine g_call 33 _ _ [.agg #[.bool s_d, v_d], v 1] (kf33 _ _) (by show ([v 0, v 1] : List Value) = _; rw [d0]; (try rfl)) ((radd_any _ _ D 1 D1 wx ⟨_, _, rfl, (r_d.below hC)⟩ d1 fD f1 hD1).mono ?_)
        rintro e w' ⟨u_, rfl, hp, hb⟩
        exact ⟨_, rfl, hC.trans (hb.mono hnw), keepE (by decide) k0, (fun h => by rw [setB_other _ _ _ (by decide)] at h; rw [setV_other _ _ _ _ (by decide)]; exact (k1 h).below hb), (fun _ => by rw [setV_self]; exact hp), (fun h => by rw [setB_other _ _ _ (by decide)] at h; rw [setV_other _ _ _ _ (by decide)]; exact (k3 h).below hb), (fun h => by rw [setB_other _ _ _ (by decide)] at h; rw [setV_other _ _ _ _ (by decide)]; exact (k4 h).below hb), (fun h => by rw [setB_other _ _ _ (by decide)] at h; rw [setV_other _ _ _ _ (by decide)]; exact (k5 h).below hb), (fun h => by rw [setB_other _ _ _ (by decide)] at h; rw [setV_other _ _ _ _ (by decide)]; exact (k6 h).below hb), (fun h => by rw [setB_other _ _ _ (by decide)] at h; rw [setV_other _ _ _ _ (by decide)]; exact (k7 h).below hb), (fun h => by rw [setB_other _ _ _ (by decide)] at h; obtain ⟨p', f1, f2, f4, f3, f5⟩ := k8 h; refine ⟨p', by rw [setV_other _ _ _ _ (by decide)]; exact f1, Nat.lt_of_lt_of_le f2 hb.size, f4, fun h5 => ?_, fun h5 => ?_⟩ <;> rw [setB_other _ _ _ (by decide)] at h5 <;> first | exact (f3 h5).below hb f2 | exact (f5 h5).below hb), (fun h => by rw [setB_other _ _ _ (by decide)] at h; obtain ⟨p', f1, f2, f4, f3, f5⟩ := k9 h; refine ⟨p', by rw [setV_other _ _ _ _ (by decide)]; exact f1, Nat.lt_of_lt_of_le f2 hb.size, f4, fun h5 => ?_, fun h5 => ?_⟩ <;> rw [setB_other _ _ _ (by decide)] at h5 <;> first | exact (f3 h5).below hb f2 | exact (f5 h5).below hb), (fun h => by rw [setB_other _ _ _ (by decide)] at h ⊢; exact k10 h), (fun h => by rw [setB_other _ _ _ (by decide)] at h ⊢; exact k11 h), (fun h h' => by rw [setB_other _ _ _ (by decide)] at h h'; rw [setV_other _ _ _ _ (by decide), setV_other _ _ _ _ (by decide)]; exact n8_9 h h')⟩
      · obtain rfl := Option.some.inj ho
        refine g_call 36 _ _ [.int .i64 (2)] (kf36 _ _) (rfl) ((rof_any 2 wx j2).mono ?_)
        rintro e w' ⟨u_, rfl, hp, hb⟩
        exact ⟨_, rfl, hC.trans (hb.mono hnw), keepE (by decide) k0, (fun h => by rw [setB_other _ _ _ (by decide)] at h; rw [setV_other _ _ _ _ (by decide)]; exact (k1 h).below hb), (fun h => by rw [setB_other _ _ _ (by decide)] at h; rw [setV_other _ _ _ _ (by decide)]; exact (k2 h).below hb), (fun _ => by rw [setV_self]; exact hp), (fun h => by rw [setB_other _ _ _ (by decide)] at h; rw [setV_other _ _ _ _ (by decide)]; exact (k4 h).below hb), (fun h => by rw [setB_other _ _ _ (by decide)] at h; rw [setV_other _ _ _ _ (by decide)]; exact (k5 h).below hb), (fun h => by rw [setB_other _ _ _ (by decide)] at h; rw [setV_other _ _ _ _ (by decide)]; exact (k6 h).below hb), (fun h => by rw [setB_other _ _ _ (by decide)] at h; rw [setV_other _ _ _ _ (by decide)]; exact (k7 h).below hb), (fun h => by rw [setB_other _ _ _ (by decide)] at h; obtain ⟨p', f1, f2, f4, f3, f5⟩ := k8 h; refine ⟨p', by rw [setV_other _ _ _ _ (by decide)]; exact f1, Nat.lt_of_lt_of_le f2 hb.size, f4, fun h5 => ?_, fun h5 => ?_⟩ <;> rw [setB_other _ _ _ (by decide)] at h5 <;> first | exact (f3 h5).below hb f2 | exact (f5 h5).below hb), (fun h => by rw [setB_other _ _ _ (by decide)] at h; obtain ⟨p', f1, f2, f4, f3, f5⟩ := k9 h; refine ⟨p', by rw [setV_other _ _ _ _ (by decide)]; exact f1, Nat.lt_of_lt_of_le f2 hb.size, f4, fun h5 => ?_, fun h5 => ?_⟩ <;> rw [setB_other _ _ _ (by decide)] at h5 <;> first | exact (f3 h5).below hb f2 | exact (f5 h5).below hb), (fun h => by rw [setB_other _ _ _ (by decide)] at h ⊢; exact k10 h), (fun h => by rw [setB_other _ _ _ (by decide)] at h ⊢; exact k11 h), (fun h h' => by rw [setB_other _ _ _ (by decide)] at h h'; rw [setV_other _ _ _ _ (by decide), setV_other _ _ _ _ (by decide)]; exact n8_9 h h')⟩
      · obtain rfl := Option.some.inj ho
        have d2 := k2 (hall ⟨2, .data⟩ (by simp) rfl)
        have d3 := k3 (hall ⟨3, .data⟩ (by simp) rfl)
        refine g_call 35 _ _ [v 2, v 3] (kf35 _ _) (rfl) ((rdiv_any _ _ D1 2 wx d2 d3 fD1 f2 (by omega)).mono ?_)
        rintro e w' ⟨u_, v_, rfl, hp1, hp2, hb⟩
        exact ⟨_, rfl, hC.trans (hb.mono hnw), keepE (by decide) k0, (fun h => by rw [setB_other _ _ _ (by decide)] at h; rw [setV_other _ _ _ _ (by decide)]; exact (k1 h).below hb), (fun h => by rw [setB_other _ _ _ (by decide)] at h; rw [setV_other _ _ _ _ (by decide)]; exact (k2 h).below hb), (fun h => by rw [setB_other _ _ _ (by decide)] at h; rw [setV_other _ _ _ _ (by decide)]; exact (k3 h).below hb), (fun _ => by rw [setV_self]; exact ⟨u_, v_, rfl, hp1, hp2⟩), (fun h => by rw [setB_other _ _ _ (by decide)] at h; rw [setV_other _ _ _ _ (by decide)]; exact (k5 h).below hb), (fun h => by rw [setB_other _ _ _ (by decide)] at h; rw [setV_other _ _ _ _ (by decide)]; exact (k6 h).below hb), (fun h => by rw [setB_other _ _ _ (by decide)] at h; rw [setV_other _ _ _ _ (by decide)]; exact (k7 h).below hb), (fun h => by rw [setB_other _ _ _ (by decide)] at h; obtain ⟨p', f1, f2, f4, f3, f5⟩ := k8 h; refine ⟨p', by rw [setV_other _ _ _ _ (by decide)]; exact f1, Nat.lt_of_lt_of_le f2 hb.size, f4, fun h5 => ?_, fun h5 => ?_⟩ <;> rw [setB_other _ _ _ (by decide)] at h5 <;> first | exact (f3 h5).below hb f2 | exact (f5 h5).below hb), (fun h => by rw [setB_other _ _ _ (by decide)] at h; obtain ⟨p', f1, f2, f4, f3, f5⟩ := k9 h; refine ⟨p', by rw [setV_other _ _ _ _ (by decide)]; exact f1, Nat.lt_of_lt_of_le f2 hb.size, f4, fun h5 => ?_, fun h5 => ?_⟩ <;> rw [setB_other _ _ _ (by decide)] at h5 <;> first | exact (f3 h5).below hb f2 | exact (f5 h5).below hb), (fun h => by rw [setB_other _ _ _ (by decide)] at h ⊢; exact k10 h), (fun h => by rw [setB_other _ _ _ (by decide)] at h ⊢; exact k11 h), (fun h h' => by rw [setB_other _ _ _ (by decide)] at h h'; rw [setV_other _ _ _ _ (by decide), setV_other _ _ _ _ (by decide)]; exact n8_9 h h')⟩
      · obtain rfl := Option.some.inj ho
        have d4 := k4 (hall ⟨4, .data⟩ (by simp) rfl)
        refine g_move _ _ rfl ?_
        exact ⟨hC, keepE (by decide) k0, (fun h => by rw [setB_other _ _ _ (by decide)] at h; rw [setV_other _ _ _ _ (by decide)]; exact k1 h), (fun h => by rw [setB_other _ _ _ (by decide)] at h; rw [setV_other _ _ _ _ (by decide)]; exact k2 h), (fun h => by rw [setB_other _ _ _ (by decide)] at h; rw [setV_other _ _ _ _ (by decide)]; exact k3 h), (fun h => by rw [setB_other _ _ _ (by decide)] at h; rw [setV_other _ _ _ _ (by decide)]; exact k4 h), (fun _ => by rw [setV_self]; exact d4), (fun h => by rw [setB_other _ _ _ (by decide)] at h; rw [setV_other _ _ _ _ (by decide)]; exact k6 h), (fun h => by rw [setB_other _ _ _ (by decide)] at h; rw [setV_other _ _ _ _ (by decide)]; exact k7 h), (fun h => by rw [setB_other _ _ _ (by decide)] at h; obtain ⟨p', f1, f2, f4, f3, f5⟩ := k8 h; refine ⟨p', by rw [setV_other _ _ _ _ (by decide)]; exact f1, f2, f4, fun h5 => ?_, fun h5 => ?_⟩ <;> rw [setB_other _ _ _ (by decide)] at h5 <;> first | exact f3 h5 | exact f5 h5), (fun h => by rw [setB_other _ _ _ (by decide)] at h; obtain ⟨p', f1, f2, f4, f3, f5⟩ := k9 h; refine ⟨p', by rw [setV_other _ _ _ _ (by decide)]; exact f1, f2, f4, fun h5 => ?_, fun h5 => ?_⟩ <;> rw [setB_other _ _ _ (by decide)] at h5 <;> first | exact f3 h5 | exact f5 h5), (fun h => by rw [setB_other _ _ _ (by decide)] at h ⊢; exact k10 h), (fun h => by rw [setB_other _ _ _ (by decide)] at h ⊢; exact k11 h), (fun h h' => by rw [setB_other _ _ _ (by decide)] at h h'; rw [setV_other _ _ _ _ (by decide), setV_other _ _ _ _ (by decide)]; exact n8_9 h h')⟩
      · obtain rfl := Option.some.inj ho
        have d5 := k5 (hall ⟨5, .data⟩ (by simp) rfl)
        obtain ⟨u8, v8, e8, ra8, rb8⟩ := d5
        refine g_extract _ _ 0 _ (show v 5 = _ from e8) rfl ?_
        exact ⟨hC, keepE (by decide) k0, (fun h => by rw [setB_other _ _ _ (by decide)] at h; rw [setV_other _ _ _ _ (by decide)]; exact k1 h), (fun h => by rw [setB_other _ _ _ (by decide)] at h; rw [setV_other _ _ _ _ (by decide)]; exact k2 h), (fun h => by rw [setB_other _ _ _ (by decide)] at h; rw [setV_other _ _ _ _ (by decide)]; exact k3 h), (fun h => by rw [setB_other _ _ _ (by decide)] at h; rw [setV_other _ _ _ _ (by decide)]; exact k4 h), (fun h => by rw [setB_other _ _ _ (by decide)] at h; rw [setV_other _ _ _ _ (by decide)]; exact k5 h), (fun _ => by rw [setV_self]; exact ra8), (fun h => by rw [setB_other _ _ _ (by decide)] at h; rw [setV_other _ _ _ _ (by decide)]; exact k7 h), (fun h => by rw [setB_other _ _ _ (by decide)] at h; obtain ⟨p', f1, f2, f4, f3, f5⟩ := k8 h; refine ⟨p', by rw [setV_other _ _ _ _ (by decide)]; exact f1, f2, f4, fun h5 => ?_, fun h5 => ?_⟩ <;> rw [setB_other _ _ _ (by decide)] at h5 <;> first | exact f3 h5 | exact f5 h5), (fun h => by rw [setB_other _ _ _ (by decide)] at h; obtain ⟨p', f1, f2, f4, f3, f5⟩ := k9 h; refine ⟨p', by rw [setV_other _ _ _ _ (by decide)]; exact f1, f2, f4, fun h5 => ?_, fun h5 => ?_⟩ <;> rw [setB_other _ _ _ (by decide)] at h5 <;> first | exact f3 h5 | exact f5 h5), (fun h => by rw [setB_other _ _ _ (by decide)] at h ⊢; exact k10 h), (fun h => by rw [setB_other _ _ _ (by decide)] at h ⊢; exact k11 h), (fun h h' => by rw [setB_other _ _ _ (by decide)] at h h'; rw [setV_other _ _ _ _ (by decide), setV_other _ _ _ _ (by decide)]; exact n8_9 h h')⟩
      · obtain rfl := Option.some.inj ho
        have d5 := k5 (hall ⟨5, .data⟩ (by simp) rfl)
        obtain ⟨u8, v8, e8, ra8, rb8⟩ := d5
        refine g_extract _ _ 1 _ (show v 5 = _ from e8) rfl ?_
        exact ⟨hC, keepE (by decide) k0, (fun h => by rw [setB_other _ _ _ (by decide)] at h; rw [setV_other _ _ _ _ (by decide)]; exact k1 h), (fun h => by rw [setB_other _ _ _ (by decide)] at h; rw [setV_other _ _ _ _ (by decide)]; exact k2 h), (fun h => by rw [setB_other _ _ _ (by decide)] at h; rw [setV_other _ _ _ _ (by decide)]; exact k3 h), (fun h => by rw [setB_other _ _ _ (by decide)] at h; rw [setV_other _ _ _ _ (by decide)]; exact k4 h), (fun h => by rw [setB_other _ _ _ (by decide)] at h; rw [setV_other _ _ _ _ (by decide)]; exact k5 h), (fun h => by rw [setB_other _ _ _ (by decide)] at h; rw [setV_other _ _ _ _ (by decide)]; exact k6 h), (fun _ => by rw [setV_self]; exact rb8), (fun h => by rw [setB_other _ _ _ (by decide)] at h; obtain ⟨p', f1, f2, f4, f3, f5⟩ := k8 h; refine ⟨p', by rw [setV_other _ _ _ _ (by decide)]; exact f1, f2, f4, fun h5 => ?_, fun h5 => ?_⟩ <;> rw [setB_other _ _ _ (by decide)] at h5 <;> first | exact f3 h5 | exact f5 h5), (fun h => by rw [setB_other _ _ _ (by decide)] at h; obtain ⟨p', f1, f2, f4, f3, f5⟩ := k9 h; refine ⟨p', by rw [setV_other _ _ _ _ (by decide)]; exact f1, f2, f4, fun h5 => ?_, fun h5 => ?_⟩ <;> rw [setB_other _ _ _ (by decide)] at h5 <;> first | exact f3 h5 | exact f5 h5), (fun h => by rw [setB_other _ _ _ (by decide)] at h ⊢; exact k10 h), (fun h => by rw [setB_other _ _ _ (by decide)] at h ⊢; exact k11 h), (fun h h' => by rw [setB_other _ _ _ (by decide)] at h h'; rw [setV_other _ _ _ _ (by decide), setV_other _ _ _ _ (by decide)]; exact n8_9 h h')⟩
      · obtain rfl := Option.some.inj ho
        refine g_alloc 72 _ zeroR (fun w' h1 h2 => ?_)
        exact ⟨h1.below hC hnw, keepE (by decide) k0, (fun h => by rw [setB_other _ _ _ (by decide)] at h; rw [setV_other _ _ _ _ (by decide)]; exact (k1 h).below h1.toBelow), (fun h => by rw [setB_other _ _ _ (by decide)] at h; rw [setV_other _ _ _ _ (by decide)]; exact (k2 h).below h1.toBelow), (fun h => by rw [setB_other _ _ _ (by decide)] at h; rw [setV_other _ _ _ _ (by decide)]; exact (k3 h).below h1.toBelow), (fun h => by rw [setB_other _ _ _ (by decide)] at h; rw [setV_other _ _ _ _ (by decide)]; exact (k4 h).below h1.toBelow), (fun h => by rw [setB_other _ _ _ (by decide)] at h; rw [setV_other _ _ _ _ (by decide)]; exact (k5 h).below h1.toBelow), (fun h => by rw [setB_other _ _ _ (by decide)] at h; rw [setV_other _ _ _ _ (by decide)]; exact (k6 h).below h1.toBelow), (fun h => by rw [setB_other _ _ _ (by decide)] at h; rw [setV_other _ _ _ _ (by decide)]; exact (k7 h).below h1.toBelow), (fun _ => ⟨wx.heap.size, setV_self _ _ _, h2.lt, hC.size, fun _ => h2, fun h => by rw [setB_other _ _ _ (by decide)] at h; have := k10 h; rw [hti] at this; cases this⟩), (fun h => by rw [setB_other _ _ _ (by decide)] at h; obtain ⟨p', f1, f2, f4, f3, f5⟩ := k9 h; refine ⟨p', by rw [setV_other _ _ _ _ (by decide)]; exact f1, Nat.lt_of_lt_of_le f2 h1.size, f4, fun h5 => ?_, fun h5 => ?_⟩ <;> rw [setB_other _ _ _ (by decide)] at h5 <;> first | exact h1.blk (f3 h5) (Nat.ne_of_lt f2) | exact (f5 h5).below h1.toBelow), (fun _ => setB_self _ _), (fun h => by rw [setB_other _ _ _ (by decide)] at h ⊢; exact k11 h), (fun _ h => by rw [setB_other _ _ _ (by decide)] at h; obtain ⟨p', f1, f2, -⟩ := k9 h; rw [setV_self, setV_other _ _ _ _ (by decide), f1]; intro hh; simp only [Value.pointer.injEq, Option.some.injEq, Addr.mk.injEq] at hh; omega)⟩
      · obtain rfl := Option.some.inj ho
        refine g_alloc 72 _ zeroR (fun w' h1 h2 => ?_)
        exact ⟨h1.below hC hnw, keepE (by decide) k0, (fun h => by rw [setB_other _ _ _ (by decide)] at h; rw [setV_other _ _ _ _ (by decide)]; exact (k1 h).below h1.toBelow), (fun h => by rw [setB_other _ _ _ (by decide)] at h; rw [setV_other _ _ _ _ (by decide)]; exact (k2 h).below h1.toBelow), (fun h => by rw [setB_other _ _ _ (by decide)] at h; rw [setV_other _ _ _ _ (by decide)]; exact (k3 h).below h1.toBelow), (fun h => by rw [setB_other _ _ _ (by decide)] at h; rw [setV_other _ _ _ _ (by decide)]; exact (k4 h).below h1.toBelow), (fun h => by rw [setB_other _ _ _ (by decide)] at h; rw [setV_other _ _ _ _ (by decide)]; exact (k5 h).below h1.toBelow), (fun h => by rw [setB_other _ _ _ (by decide)] at h; rw [setV_other _ _ _ _ (by decide)]; exact (k6 h).below h1.toBelow), (fun h => by rw [setB_other _ _ _ (by decide)] at h; rw [setV_other _ _ _ _ (by decide)]; exact (k7 h).below h1.toBelow), (fun h => by rw [setB_other _ _ _ (by decide)] at h; obtain ⟨p', f1, f2, f4, f3, f5⟩ := k8 h; refine ⟨p', by rw [setV_other _ _ _ _ (by decide)]; exact f1, Nat.lt_of_lt_of_le f2 h1.size, f4, fun h5 => ?_, fun h5 => ?_⟩ <;> rw [setB_other _ _ _ (by decide)] at h5 <;> first | exact h1.blk (f3 h5) (Nat.ne_of_lt f2) | exact (f5 h5).below h1.toBelow), (fun _ => ⟨wx.heap.size, setV_self _ _ _, h2.lt, hC.size, fun _ => h2, fun h => by rw [setB_other _ _ _ (by decide)] at h; have := k11 h; rw [hti] at this; cases this⟩), (fun h => by rw [setB_other _ _ _ (by decide)] at h ⊢; exact k10 h), (fun _ => setB_self _ _), (fun h _ => by rw [setB_other _ _ _ (by decide)] at h; obtain ⟨p', f1, f2, -⟩ := k8 h; rw [setV_self, setV_other _ _ _ _ (by decide), f1]; intro hh; simp only [Value.pointer.injEq, Option.some.injEq, Addr.mk.injEq] at hh; omega)⟩
      · obtain rfl := Option.some.inj ho
        have ht_ := hall ⟨8, .data⟩ (by simp) rfl
        obtain ⟨p, e1, e2, e4, e3, e5⟩ := k8 ht_
        have hold := e3 hti
        have hlo : w21.heap.size ≤ p := Nat.le_trans hB0 e4
        obtain ⟨s8, b8, e8, r8⟩ := k6 (hall ⟨6, .data⟩ (by simp) rfl)
        refine g_store_all 72 _ _ (p) [.bool s8, b8] _ 72 (show v 8 = _ from e1) (show v 6 = _ from e8) hold szR rfl (one_rc _ _ r8.sl) (fun w' h1 h2 => ?_)
        exact ⟨h1.below hC hlo, keepE (by decide) k0, (fun h => by rw [setB_other _ _ _ (by decide)] at h; rw [setV_other _ _ _ _ (by decide)]; exact (k1 h).turn h1 hold (by decide)), (fun h => by rw [setB_other _ _ _ (by decide)] at h; rw [setV_other _ _ _ _ (by decide)]; exact (k2 h).turn h1 hold (by decide)), (fun h => by rw [setB_other _ _ _ (by decide)] at h; rw [setV_other _ _ _ _ (by decide)]; exact (k3 h).turn h1 hold (by decide)), (fun h => by rw [setB_other _ _ _ (by decide)] at h; rw [setV_other _ _ _ _ (by decide)]; exact (k4 h).turn h1 hold (by decide)), (fun h => by rw [setB_other _ _ _ (by decide)] at h; rw [setV_other _ _ _ _ (by decide)]; exact (k5 h).turn h1 hold (by decide)), (fun h => by rw [setB_other _ _ _ (by decide)] at h; rw [setV_other _ _ _ _ (by decide)]; exact (k6 h).turn h1 hold (by decide)), (fun h => by rw [setB_other _ _ _ (by decide)] at h; rw [setV_other _ _ _ _ (by decide)]; exact (k7 h).turn h1 hold (by decide)), (fun h => ⟨p, by rw [setV_other _ _ _ _ (by decide)]; exact e1, Nat.lt_of_lt_of_le e2 h1.size, e4, (fun h => by have := setB_self t 10; rw [h] at this; cases this), fun _ => ⟨_, _, h2, r8.turn h1 hold (by decide)⟩⟩), (fun h => by rw [setB_other _ _ _ (by decide)] at h; obtain ⟨p', f1, f2, f4, f3, f5⟩ := k9 h; have hne : p' ≠ p := (by intro hh; apply n8_9 ht_ h; rw [f1, e1, hh]); refine ⟨p', by rw [setV_other _ _ _ _ (by decide)]; exact f1, Nat.lt_of_lt_of_le f2 h1.size, f4, fun h5 => ?_, fun h5 => ?_⟩ <;> rw [setB_other _ _ _ (by decide)] at h5 <;> first | exact h1.blk (f3 h5) hne | exact (f5 h5).turn h1 hold (fun hh => hne (Option.some.inj hh))), (fun _ => by rw [setB_other _ _ _ (by decide)]; exact ht_), (fun h => by rw [setB_other _ _ _ (by decide)] at h ⊢; exact k11 h), (fun h h' => by rw [setB_other _ _ _ (by decide)] at h h'; rw [setV_other _ _ _ _ (by decide), setV_other _ _ _ _ (by decide)]; exact n8_9 h h')⟩
      · obtain rfl := Option.some.inj ho
        have ht_ := hall ⟨9, .data⟩ (by simp) rfl
        obtain ⟨p, e1, e2, e4, e3, e5⟩ := k9 ht_
        have hold := e3 hti
        have hlo : w21.heap.size ≤ p := Nat.le_trans hB0 e4
        obtain ⟨s8, b8, e8, r8⟩ := k7 (hall ⟨7, .data⟩ (by simp) rfl)
        refine g_store_all 72 _ _ (p) [.bool s8, b8] _ 72 (show v 9 = _ from e1) (show v 7 = _ from e8) hold szR rfl (one_rc _ _ r8.sl) (fun w' h1 h2 => ?_)
        exact ⟨h1.below hC hlo, keepE (by decide) k0, (fun h => by rw [setB_other _ _ _ (by decide)] at h; rw [setV_other _ _ _ _ (by decide)]; exact (k1 h).turn h1 hold (by decide)), (fun h => by rw [setB_other _ _ _ (by decide)] at h; rw [setV_other _ _ _ _ (by decide)]; exact (k2 h).turn h1 hold (by decide)), (fun h => by rw [setB_other _ _ _ (by decide)] at h; rw [setV_other _ _ _ _ (by decide)]; exact (k3 h).turn h1 hold (by decide)), (fun h => by rw [setB_other _ _ _ (by decide)] at h; rw [setV_other _ _ _ _ (by decide)]; exact (k4 h).turn h1 hold (by decide)), (fun h => by rw [setB_other _ _ _ (by decide)] at h; rw [setV_other _ _ _ _ (by decide)]; exact (k5 h).turn h1 hold (by decide)), (fun h => by rw [setB_other _ _ _ (by decide)] at h; rw [setV_other _ _ _ _ (by decide)]; exact (k6 h).turn h1 hold (by decide)), (fun h => by rw [setB_other _ _ _ (by decide)] at h; rw [setV_other _ _ _ _ (by decide)]; exact (k7 h).turn h1 hold (by decide)), (fun h => by rw [setB_other _ _ _ (by decide)] at h; obtain ⟨p', f1, f2, f4, f3, f5⟩ := k8 h; have hne : p' ≠ p := (by intro hh; apply n8_9 h ht_; rw [f1, e1, hh]); refine ⟨p', by rw [setV_other _ _ _ _ (by decide)]; exact f1, Nat.lt_of_lt_of_le f2 h1.size, f4, fun h5 => ?_, fun h5 => ?_⟩ <;> rw [setB_other _ _ _ (by decide)] at h5 <;> first | exact h1.blk (f3 h5) hne | exact (f5 h5).turn h1 hold (fun hh => hne (Option.some.inj hh))), (fun h => ⟨p, by rw [setV_other _ _ _ _ (by decide)]; exact e1, Nat.lt_of_lt_of_le e2 h1.size, e4, (fun h => by have := setB_self t 11; rw [h] at this; cases this), fun _ => ⟨_, _, h2, r8.turn h1 hold (by decide)⟩⟩), (fun h => by rw [setB_other _ _ _ (by decide)] at h ⊢; exact k10 h), (fun _ => by rw [setB_other _ _ _ (by decide)]; exact ht_), (fun h h' => by rw [setB_other _ _ _ (by decide)] at h h'; rw [setV_other _ _ _ _ (by decide), setV_other _ _ _ _ (by decide)]; exact n8_9 h h')⟩
      · simp at ho
    · simp only [full, Act.put, List.setIfInBounds_toArray, List.set_cons_succ, List.set_cons_zero, Nat.zero_add, Nat.reduceAdd]
      intro t v w22 hS ht
      obtain ⟨hC, k0, k1, k2, k3, k4, k5, k6, k7, k8, k9, k10, k11, n8_9⟩ := hS
      obtain ⟨p_u, e1_u, -, e4_u, -, e5_u⟩ := k8 (ht 8 (by decide))
      obtain ⟨s_u, v_u, b_u, r_u⟩ := e5_u (ht 10 (by decide))
      obtain ⟨p_u2, e1_u2, -, e4_u2, -, e5_u2⟩ := k9 (ht 9 (by decide))
      obtain ⟨s_u2, v_u2, b_u2, r_u2⟩ := e5_u2 (ht 11 (by decide))
      have ne_u_u2 : p_u ≠ p_u2 := (by intro hh; apply n8_9 (ht 8 (by decide)) (ht 9 (by decide)); rw [e1_u, e1_u2, hh])
      rw [e1_u]
      rw [e1_u2]
      have d0 := k0 (ht 0 (by decide)); (try rw [d0])
      clear d0
      clear ht k0 k1 k2 k3 k4 k5 k6 k7 k8 k9 k10 k11 n8_9 e1_u e5_u e1_u2 e5_u2 lt_z lt_a lt_b lt_x lt_y lt_d lt_o lt_o2
      generalize v 1 = y2_1
      generalize v 2 = y2_2
      generalize v 3 = y2_3
      generalize v 4 = y2_4
      generalize v 5 = y2_5
      generalize v 6 = y2_6
      generalize v 7 = y2_7
      generalize v 10 = y2_10
      generalize v 11 = y2_11
      have l_u : w.heap.size ≤ p_u := Nat.le_trans hB.size e4_u
      have o_u : w18.heap.size < p_u := Nat.lt_of_lt_of_le b_o2.lt e4_u
      clear e4_u
      have l_u2 : w.heap.size ≤ p_u2 := Nat.le_trans hB.size e4_u2
      have o_u2 : w18.heap.size < p_u2 := Nat.lt_of_lt_of_le b_o2.lt e4_u2
      clear e4_u2
      clear hB0
      replace r_n45 := r_n45.below hC
      replace r_n48 := r_n48.below hC
      replace r_n51 := r_n51.below hC
      replace r_n54 := r_n54.below hC
      replace r_d := r_d.below hC
      replace r_n62 := r_n62.below hC
      replace r_n63 := r_n63.below hC
      replace r_n64a := r_n64a.below hC
      replace r_n64b := r_n64b.below hC
      replace b_z := b_z.below hC b_z.lt
      replace b_a := b_a.below hC b_a.lt
      replace b_b := b_b.below hC b_b.lt
      replace b_x := b_x.below hC b_x.lt
      replace b_y := b_y.below hC b_y.lt
      replace b_d := b_d.below hC b_d.lt
      replace b_o := b_o.below hC b_o.lt
      replace b_o2 := b_o2.below hC b_o2.lt
      replace hB := hB.trans (hC.mono hB.size)
      clear hC
      have o_u9 := b_u.lt
      go_wp2_with (first
        | ((with_reducible refine at_loadD 75 72 ?_); refine L_load_all 72 _ (w2.heap.size) ([.bool s_n45, v_n45]) 72 _ rfl b_a Tryd.underlying72 rfl (szR) ?_)
        | ((with_reducible refine at_loadD 76 72 ?_); refine L_load_all 72 _ (w5.heap.size) ([.bool s_n48, v_n48]) 72 _ rfl b_b Tryd.underlying72 rfl (szR) ?_)
        | ((with_reducible refine at_loadD 77 72 ?_); refine L_load_all 72 _ (w8.heap.size) ([.bool s_n51, v_n51]) 72 _ rfl b_x Tryd.underlying72 rfl (szR) ?_)
        | ((with_reducible refine at_loadD 78 72 ?_); refine L_load_all 72 _ (w11.heap.size) ([.bool s_n54, v_n54]) 72 _ rfl b_y Tryd.underlying72 rfl (szR) ?_)
        | ((with_reducible refine at_loadD 79 72 ?_); refine L_load_all 72 _ (p_d) ([.bool s_d, v_d]) 72 _ rfl b_d Tryd.underlying72 rfl (szR) ?_)
        | ((with_reducible refine at_loadD 80 72 ?_); refine L_load_all 72 _ (w17.heap.size) ([.bool s_n64a, v_n64a]) 72 _ rfl b_o Tryd.underlying72 rfl (szR) ?_)
        | ((with_reducible refine at_buildD 81 ?_); refine L_give (by rfl) (g_bs6 _ _ _ _ _ _ s_n45 v_n45 s_n48 v_n48 s_n51 v_n51 s_n54 v_n54 s_d v_d s_n64a v_n64a r_n45.sl r_n48.sl r_n51.sl r_n54.sl r_d.sl r_n64a.sl rfl rfl rfl rfl rfl rfl ?_); intro w23 t_ b_sl; have l_sl : w.heap.size ≤ w22.heap.size := hB.size; have o_sl := b_u2.lt; replace r_n45 := r_n45.below t_.toBelow; replace r_n48 := r_n48.below t_.toBelow; replace r_n51 := r_n51.below t_.toBelow; replace r_n54 := r_n54.below t_.toBelow; replace r_d := r_d.below t_.toBelow; replace r_n62 := r_n62.below t_.toBelow; replace r_n63 := r_n63.below t_.toBelow; replace r_n64a := r_n64a.below t_.toBelow; replace r_n64b := r_n64b.below t_.toBelow; replace r_u := r_u.below t_.toBelow; replace r_u2 := r_u2.below t_.toBelow; replace b_z := t_.blk b_z (by omega); replace b_a := t_.blk b_a (by omega); replace b_b := t_.blk b_b (by omega); replace b_x := t_.blk b_x (by omega); replace b_y := t_.blk b_y (by omega); replace b_d := t_.blk b_d (by omega); replace b_o := t_.blk b_o (by omega); replace b_o2 := t_.blk b_o2 (by omega); replace b_u := t_.blk b_u (by omega); replace b_u2 := t_.blk b_u2 (by omega); replace hB := t_.below hB l_sl; clear t_))
      go_loopw [22] (fun v22 wr => ∃ k : Int, (0 ≤ k ∧ k ≤ 6) ∧ v22 = .int .i64 k ∧ Below w23.heap.size w23 wr ∧ Hid ((1 ≤ k → In64 A) ∧ (2 ≤ k → In64 B) ∧ (3 ≤ k → In64 X) ∧ (4 ≤ k → In64 Y))) (fun v22 _ => (6 - intOf v22).toNat)
      case atStart => exact ⟨0, ⟨by omega, by omega⟩, rfl, Below.refl _ _, ⟨fun h => absurd h (by decide), fun h => absurd h (by decide), fun h => absurd h (by decide), fun h => absurd h (by decide)⟩⟩
      case round =>
        obtain ⟨k, hk, rfl, hL, hI⟩ := hrel
        have hLL : BL w23 wr := hL
        have hk7 : k = 0 ∨ k = 1 ∨ k = 2 ∨ k = 3 ∨ k = 4 ∨ k = 5 ∨ k = 6 := by omega
        clear hk
        replace r_n45 := r_n45.below hL
        replace r_n48 := r_n48.below hL
        replace r_n51 := r_n51.below hL
        replace r_n54 := r_n54.below hL
        replace r_d := r_d.below hL
        replace r_n62 := r_n62.below hL
        replace r_n63 := r_n63.below hL
        replace r_n64a := r_n64a.below hL
        replace r_n64b := r_n64b.below hL
        replace r_u := r_u.below hL
        replace r_u2 := r_u2.below hL
        replace b_z := b_z.below hL b_z.lt
        replace b_a := b_a.below hL b_a.lt
        replace b_b := b_b.below hL b_b.lt
        replace b_x := b_x.below hL b_x.lt
        replace b_y := b_y.below hL b_y.lt
        replace b_d := b_d.below hL b_d.lt
        replace b_o := b_o.below hL b_o.lt
        replace b_o2 := b_o2.below hL b_o2.lt
        replace b_u := b_u.below hL b_u.lt
        replace b_u2 := b_u2.below hL b_u2.lt
        replace b_sl := b_sl.below hL b_sl.lt
        replace hB := hB.trans (hL.mono hB.size)
        clear hL
        rcases hk7 with rfl | rfl | rfl | rfl | rfl | rfl | rfl
        · skip
          have hI1 := hI.out
          by_cases hz : In64 (A)
          · skip
            clear r_n48 r_n51 r_n54 r_d r_n62 r_n63 r_n64a r_n64b r_u r_u2 b_a b_b b_x b_y b_d b_o b_o2 b_u b_u2
            go_wp2_with (first
              | ((with_reducible refine at_op 90 ?_); refine L_give (by rfl) (g_ix _ _ 79 72 2 Tryd.underlying79 (fun w => Tryd.sizeOf72 w) (w22.heap.size) 0 6 6 0 0 (0) rfl rfl rfl (by decide) (by decide) ?_))
              | ((with_reducible refine at_loadD 91 72 ?_); refine L_give (by rfl) (g_load 72 _ (w22.heap.size) 0 2 ([.bool s_n45, v_n45, .bool s_n48, v_n48, .bool s_n51, v_n51, .bool s_n54, v_n54, .bool s_d, v_d, .bool s_n64a, v_n64a]) 72 _ rfl b_sl Tryd.underlying72 rfl szR (show 2 ≤ 12 by decide) [.bool s_n45, v_n45] rfl ?_)))
            refine (fits_any _ (A) 63 wr true ⟨_, _, rfl, r_n45⟩ fA (fit63 (A) hz)).mono ?_
            rintro e w24 ⟨rfl, t_⟩
            replace r_n45 := r_n45.below t_
            replace hLL := hLL.below t_
            replace b_z := b_z.below t_ b_z.lt
            replace b_sl := b_sl.below t_ b_sl.lt
            replace hB := hB.trans (t_.mono hB.size)
            clear t_
            go_wp2_with fail
            go_roundw
            case rel => exact ⟨1, ⟨by decide, by decide⟩, rfl, hLL, ⟨fun _ => hz, fun h => absurd h (by decide), fun h => absurd h (by decide), fun h => absurd h (by decide)⟩⟩
            case measure => simp [intOf]
          · skip
            clear r_n48 r_n51 r_n54 r_d r_n62 r_n63 r_n64a r_n64b r_u r_u2 b_a b_b b_x b_y b_d b_o b_o2 b_u b_u2
            go_wp2_with (first
              | ((with_reducible refine at_op 90 ?_); refine L_give (by rfl) (g_ix _ _ 79 72 2 Tryd.underlying79 (fun w => Tryd.sizeOf72 w) (w22.heap.size) 0 6 6 0 0 (0) rfl rfl rfl (by decide) (by decide) ?_))
              | ((with_reducible refine at_loadD 91 72 ?_); refine L_give (by rfl) (g_load 72 _ (w22.heap.size) 0 2 ([.bool s_n45, v_n45, .bool s_n48, v_n48, .bool s_n51, v_n51, .bool s_n54, v_n54, .bool s_d, v_d, .bool s_n64a, v_n64a]) 72 _ rfl b_sl Tryd.underlying72 rfl szR (show 2 ≤ 12 by decide) [.bool s_n45, v_n45] rfl ?_)))
            refine (fits_any _ (A) 63 wr false ⟨_, _, rfl, r_n45⟩ fA (nofit63 (A) hz)).mono ?_
            rintro e w24 ⟨rfl, t_⟩
            replace r_n45 := r_n45.below t_
            replace b_z := b_z.below t_ b_z.lt
            replace b_sl := b_sl.below t_ b_sl.lt
            replace hB := hB.trans (t_.mono hB.size)
            clear t_
            go_wp2_with (first
              | ((with_reducible refine at_bld 94 ?_); refine L_give (by rfl) (g_bldRs_n ?_))
              | ((with_reducible refine at_storeX 10 28 ?_); refine L_store_all 28 _ _ (w.heap.size) (smc (0) (0) (0)) _ 28 rfl rfl b_z (szRs 0 0 0) (rfl) (one_smc _ _ _) ?_; have b0_z := b_z; clear b_z; intro w25 t_ b_z; replace r_n45 := r_n45.turn t_ b0_z (by decide); replace b_sl := t_.blk b_sl (by omega); replace hB := t_.below hB l_z; clear t_ b0_z))
            exact bodyPost_ret (results_blk_tmp rfl _ (smc (0) (0) (0)) (.int .i64 (6)) _ rfl rfl b_z Tryd.underlying28 rfl (szRs _ _ _)) rfl ⟨_, v_over t1 t2 t3 t4 r A B X Y hrOk hA hB_ hX hY (fun h => hz h.1), rfl, hB⟩
        · skip
          have hI1 := hI.out
          by_cases hz : In64 (B)
          · skip
            clear r_n45 r_n51 r_n54 r_d r_n62 r_n63 r_n64a r_n64b r_u r_u2 b_a b_b b_x b_y b_d b_o b_o2 b_u b_u2
            go_wp2_with (first
              | ((with_reducible refine at_op 90 ?_); refine L_give (by rfl) (g_ix _ _ 79 72 2 Tryd.underlying79 (fun w => Tryd.sizeOf72 w) (w22.heap.size) 0 6 6 1 2 (1) rfl rfl rfl (by decide) (by decide) ?_))
              | ((with_reducible refine at_loadD 91 72 ?_); refine L_give (by rfl) (g_load 72 _ (w22.heap.size) 2 2 ([.bool s_n45, v_n45, .bool s_n48, v_n48, .bool s_n51, v_n51, .bool s_n54, v_n54, .bool s_d, v_d, .bool s_n64a, v_n64a]) 72 _ rfl b_sl Tryd.underlying72 rfl szR (show 4 ≤ 12 by decide) [.bool s_n48, v_n48] rfl ?_)))
            refine (fits_any _ (B) 63 wr true ⟨_, _, rfl, r_n48⟩ fB (fit63 (B) hz)).mono ?_
            rintro e w24 ⟨rfl, t_⟩
            replace r_n48 := r_n48.below t_
            replace hLL := hLL.below t_
            replace b_z := b_z.below t_ b_z.lt
            replace b_sl := b_sl.below t_ b_sl.lt
            replace hB := hB.trans (t_.mono hB.size)
            clear t_
            go_wp2_with fail
            go_roundw
            case rel => exact ⟨2, ⟨by decide, by decide⟩, rfl, hLL, ⟨fun _ => hI1.1 (by decide), fun _ => hz, fun h => absurd h (by decide), fun h => absurd h (by decide)⟩⟩
            case measure => simp [intOf]
          · skip
            clear r_n45 r_n51 r_n54 r_d r_n62 r_n63 r_n64a r_n64b r_u r_u2 b_a b_b b_x b_y b_d b_o b_o2 b_u b_u2
            go_wp2_with (first
              | ((with_reducible refine at_op 90 ?_); refine L_give (by rfl) (g_ix _ _ 79 72 2 Tryd.underlying79 (fun w => Tryd.sizeOf72 w) (w22.heap.size) 0 6 6 1 2 (1) rfl rfl rfl (by decide) (by decide) ?_))
              | ((with_reducible refine at_loadD 91 72 ?_); refine L_give (by rfl) (g_load 72 _ (w22.heap.size) 2 2 ([.bool s_n45, v_n45, .bool s_n48, v_n48, .bool s_n51, v_n51, .bool s_n54, v_n54, .bool s_d, v_d, .bool s_n64a, v_n64a]) 72 _ rfl b_sl Tryd.underlying72 rfl szR (show 4 ≤ 12 by decide) [.bool s_n48, v_n48] rfl ?_)))
            refine (fits_any _ (B) 63 wr false ⟨_, _, rfl, r_n48⟩ fB (nofit63 (B) hz)).mono ?_
            rintro e w24 ⟨rfl, t_⟩
            replace r_n48 := r_n48.below t_
            replace b_z := b_z.below t_ b_z.lt
            replace b_sl := b_sl.below t_ b_sl.lt
            replace hB := hB.trans (t_.mono hB.size)
            clear t_
            go_wp2_with (first
              | ((with_reducible refine at_bld 94 ?_); refine L_give (by rfl) (g_bldRs_n ?_))
              | ((with_reducible refine at_storeX 10 28 ?_); refine L_store_all 28 _ _ (w.heap.size) (smc (0) (0) (0)) _ 28 rfl rfl b_z (szRs 0 0 0) (rfl) (one_smc _ _ _) ?_; have b0_z := b_z; clear b_z; intro w25 t_ b_z; replace r_n48 := r_n48.turn t_ b0_z (by decide); replace b_sl := t_.blk b_sl (by omega); replace hB := t_.below hB l_z; clear t_ b0_z))
            exact bodyPost_ret (results_blk_tmp rfl _ (smc (0) (0) (0)) (.int .i64 (6)) _ rfl rfl b_z Tryd.underlying28 rfl (szRs _ _ _)) rfl ⟨_, v_over t1 t2 t3 t4 r A B X Y hrOk hA hB_ hX hY (fun h => hz h.2.1), rfl, hB⟩
        · skip
          have hI1 := hI.out
          by_cases hz : In64 (X)
          · skip
            clear r_n45 r_n48 r_n54 r_d r_n62 r_n63 r_n64a r_n64b r_u r_u2 b_a b_b b_x b_y b_d b_o b_o2 b_u b_u2
            go_wp2_with (first
              | ((with_reducible refine at_op 90 ?_); refine L_give (by rfl) (g_ix _ _ 79 72 2 Tryd.underlying79 (fun w => Tryd.sizeOf72 w) (w22.heap.size) 0 6 6 2 4 (2) rfl rfl rfl (by decide) (by decide) ?_))
              | ((with_reducible refine at_loadD 91 72 ?_); refine L_give (by rfl) (g_load 72 _ (w22.heap.size) 4 2 ([.bool s_n45, v_n45, .bool s_n48, v_n48, .bool s_n51, v_n51, .bool s_n54, v_n54, .bool s_d, v_d, .bool s_n64a, v_n64a]) 72 _ rfl b_sl Tryd.underlying72 rfl szR (show 6 ≤ 12 by decide) [.bool s_n51, v_n51] rfl ?_)))
            refine (fits_any _ (X) 63 wr true ⟨_, _, rfl, r_n51⟩ fX (fit63 (X) hz)).mono ?_
            rintro e w24 ⟨rfl, t_⟩
            replace r_n51 := r_n51.below t_
            replace hLL := hLL.below t_
            replace b_z := b_z.below t_ b_z.lt
            replace b_sl := b_sl.below t_ b_sl.lt
            replace hB := hB.trans (t_.mono hB.size)
            clear t_
            go_wp2_with fail
            go_roundw
            case rel => exact ⟨3, ⟨by decide, by decide⟩, rfl, hLL, ⟨fun _ => hI1.1 (by decide), fun _ => hI1.2.1 (by decide), fun _ => hz, fun h => absurd h (by decide)⟩⟩
            case measure => simp [intOf]
          · skip
            clear r_n45 r_n48 r_n54 r_d r_n62 r_n63 r_n64a r_n64b r_u r_u2 b_a b_b b_x b_y b_d b_o b_o2 b_u b_u2
            go_wp2_with (first
              | ((with_reducible refine at_op 90 ?_); refine L_give (by rfl) (g_ix _ _ 79 72 2 Tryd.underlying79 (fun w => Tryd.sizeOf72 w) (w22.heap.size) 0 6 6 2 4 (2) rfl rfl rfl (by decide) (by decide) ?_))
              | ((with_reducible refine at_loadD 91 72 ?_); refine L_give (by rfl) (g_load 72 _ (w22.heap.size) 4 2 ([.bool s_n45, v_n45, .bool s_n48, v_n48, .bool s_n51, v_n51, .bool s_n54, v_n54, .bool s_d, v_d, .bool s_n64a, v_n64a]) 72 _ rfl b_sl Tryd.underlying72 rfl szR (show 6 ≤ 12 by decide) [.bool s_n51, v_n51] rfl ?_)))
            refine (fits_any _ (X) 63 wr false ⟨_, _, rfl, r_n51⟩ fX (nofit63 (X) hz)).mono ?_
            rintro e w24 ⟨rfl, t_⟩
            replace r_n51 := r_n51.below t_
            replace b_z := b_z.below t_ b_z.lt
            replace b_sl := b_sl.below t_ b_sl.lt
            replace hB := hB.trans (t_.mono hB.size)
            clear t_
            go_wp2_with (first
              | ((with_reducible refine at_bld 94 ?_); refine L_give (by rfl) (g_bldRs_n ?_))
              | ((with_reducible refine at_storeX 10 28 ?_); refine L_store_all 28 _ _ (w.heap.size) (smc (0) (0) (0)) _ 28 rfl rfl b_z (szRs 0 0 0) (rfl) (one_smc _ _ _) ?_; have b0_z := b_z; clear b_z; intro w25 t_ b_z; replace r_n51 := r_n51.turn t_ b0_z (by decide); replace b_sl := t_.blk b_sl (by omega); replace hB := t_.below hB l_z; clear t_ b0_z))
            exact bodyPost_ret (results_blk_tmp rfl _ (smc (0) (0) (0)) (.int .i64 (6)) _ rfl rfl b_z Tryd.underlying28 rfl (szRs _ _ _)) rfl ⟨_, v_over t1 t2 t3 t4 r A B X Y hrOk hA hB_ hX hY (fun h => hz h.2.2.1), rfl, hB⟩
        · skip
          have hI1 := hI.out
          by_cases hz : In64 (Y)
          · skip
            clear r_n45 r_n48 r_n51 r_d r_n62 r_n63 r_n64a r_n64b r_u r_u2 b_a b_b b_x b_y b_d b_o b_o2 b_u b_u2
            go_wp2_with (first
              | ((with_reducible refine at_op 90 ?_); refine L_give (by rfl) (g_ix _ _ 79 72 2 Tryd.underlying79 (fun w => Tryd.sizeOf72 w) (w22.heap.size) 0 6 6 3 6 (3) rfl rfl rfl (by decide) (by decide) ?_))
              | ((with_reducible refine at_loadD 91 72 ?_); refine L_give (by rfl) (g_load 72 _ (w22.heap.size) 6 2 ([.bool s_n45, v_n45, .bool s_n48, v_n48, .bool s_n51, v_n51, .bool s_n54, v_n54, .bool s_d, v_d, .bool s_n64a, v_n64a]) 72 _ rfl b_sl Tryd.underlying72 rfl szR (show 8 ≤ 12 by decide) [.bool s_n54, v_n54] rfl ?_)))
            refine (fits_any _ (Y) 63 wr true ⟨_, _, rfl, r_n54⟩ fY (fit63 (Y) hz)).mono ?_
            rintro e w24 ⟨rfl, t_⟩
            replace r_n54 := r_n54.below t_
            replace hLL := hLL.below t_
            replace b_z := b_z.below t_ b_z.lt
            replace b_sl := b_sl.below t_ b_sl.lt
            replace hB := hB.trans (t_.mono hB.size)
            clear t_
            go_wp2_with fail
            go_roundw
            case rel => exact ⟨4, ⟨by decide, by decide⟩, rfl, hLL, ⟨fun _ => hI1.1 (by decide), fun _ => hI1.2.1 (by decide), fun _ => hI1.2.2.1 (by decide), fun _ => hz⟩⟩
            case measure => simp [intOf]
          · skip
            clear r_n45 r_n48 r_n51 r_d r_n62 r_n63 r_n64a r_n64b r_u r_u2 b_a b_b b_x b_y b_d b_o b_o2 b_u b_u2
            go_wp2_with (first
              | ((with_reducible refine at_op 90 ?_); refine L_give (by rfl) (g_ix _ _ 79 72 2 Tryd.underlying79 (fun w => Tryd.sizeOf72 w) (w22.heap.size) 0 6 6 3 6 (3) rfl rfl rfl (by decide) (by decide) ?_))
              | ((with_reducible refine at_loadD 91 72 ?_); refine L_give (by rfl) (g_load 72 _ (w22.heap.size) 6 2 ([.bool s_n45, v_n45, .bool s_n48, v_n48, .bool s_n51, v_n51, .bool s_n54, v_n54, .bool s_d, v_d, .bool s_n64a, v_n64a]) 72 _ rfl b_sl Tryd.underlying72 rfl szR (show 8 ≤ 12 by decide) [.bool s_n54, v_n54] rfl ?_)))
            refine (fits_any _ (Y) 63 wr false ⟨_, _, rfl, r_n54⟩ fY (nofit63 (Y) hz)).mono ?_
            rintro e w24 ⟨rfl, t_⟩
            replace r_n54 := r_n54.below t_
            replace b_z := b_z.below t_ b_z.lt
            replace b_sl := b_sl.below t_ b_sl.lt
            replace hB := hB.trans (t_.mono hB.size)
            clear t_
            go_wp2_with (first
              | ((with_reducible refine at_bld 94 ?_); refine L_give (by rfl) (g_bldRs_n ?_))
              | ((with_reducible refine at_storeX 10 28 ?_); refine L_store_all 28 _ _ (w.heap.size) (smc (0) (0) (0)) _ 28 rfl rfl b_z (szRs 0 0 0) (rfl) (one_smc _ _ _) ?_; have b0_z := b_z; clear b_z; intro w25 t_ b_z; replace r_n54 := r_n54.turn t_ b0_z (by decide); replace b_sl := t_.blk b_sl (by omega); replace hB := t_.below hB l_z; clear t_ b0_z))
            exact bodyPost_ret (results_blk_tmp rfl _ (smc (0) (0) (0)) (.int .i64 (6)) _ rfl rfl b_z Tryd.underlying28 rfl (szRs _ _ _)) rfl ⟨_, v_over t1 t2 t3 t4 r A B X Y hrOk hA hB_ hX hY (fun h => hz h.2.2.2), rfl, hB⟩
        · skip
          have hI1 := hI.out
          by_cases hz : In64 (D)
          · skip
            clear r_n45 r_n48 r_n51 r_n54 r_n62 r_n63 r_n64a r_n64b r_u r_u2 b_a b_b b_x b_y b_d b_o b_o2 b_u b_u2
            go_wp2_with (first
              | ((with_reducible refine at_op 90 ?_); refine L_give (by rfl) (g_ix _ _ 79 72 2 Tryd.underlying79 (fun w => Tryd.sizeOf72 w) (w22.heap.size) 0 6 6 4 8 (4) rfl rfl rfl (by decide) (by decide) ?_))
              | ((with_reducible refine at_loadD 91 72 ?_); refine L_give (by rfl) (g_load 72 _ (w22.heap.size) 8 2 ([.bool s_n45, v_n45, .bool s_n48, v_n48, .bool s_n51, v_n51, .bool s_n54, v_n54, .bool s_d, v_d, .bool s_n64a, v_n64a]) 72 _ rfl b_sl Tryd.underlying72 rfl szR (show 10 ≤ 12 by decide) [.bool s_d, v_d] rfl ?_)))
            refine (fits_any _ (D) 63 wr true ⟨_, _, rfl, r_d⟩ fD (fit63 (D) hz)).mono ?_
            rintro e w24 ⟨rfl, t_⟩
            replace r_d := r_d.below t_
            replace hLL := hLL.below t_
            replace b_z := b_z.below t_ b_z.lt
            replace b_sl := b_sl.below t_ b_sl.lt
            replace hB := hB.trans (t_.mono hB.size)
            clear t_
            go_wp2_with fail
            go_roundw
            case rel => exact ⟨5, ⟨by decide, by decide⟩, rfl, hLL, ⟨fun _ => hI1.1 (by decide), fun _ => hI1.2.1 (by decide), fun _ => hI1.2.2.1 (by decide), fun _ => hI1.2.2.2 (by decide)⟩⟩
            case measure => simp [intOf]
          · skip
            clear r_n45 r_n48 r_n51 r_n54 r_n62 r_n63 r_n64a r_n64b r_u r_u2 b_a b_b b_x b_y b_d b_o b_o2 b_u b_u2
            exact absurd (in_D _ _ _ _ _ _ _ _ _ _ hA hB_ hX hY hrOk (hI1.1 (by decide)) (hI1.2.1 (by decide)) hD) hz
        · skip
          have hI1 := hI.out
          by_cases hz : In64 (S / 2)
          · skip
            clear r_n45 r_n48 r_n51 r_n54 r_d r_n62 r_n63 r_n64b r_u r_u2 b_a b_b b_x b_y b_d b_o b_o2 b_u b_u2
            go_wp2_with (first
              | ((with_reducible refine at_op 90 ?_); refine L_give (by rfl) (g_ix _ _ 79 72 2 Tryd.underlying79 (fun w => Tryd.sizeOf72 w) (w22.heap.size) 0 6 6 5 10 (5) rfl rfl rfl (by decide) (by decide) ?_))
              | ((with_reducible refine at_loadD 91 72 ?_); refine L_give (by rfl) (g_load 72 _ (w22.heap.size) 10 2 ([.bool s_n45, v_n45, .bool s_n48, v_n48, .bool s_n51, v_n51, .bool s_n54, v_n54, .bool s_d, v_d, .bool s_n64a, v_n64a]) 72 _ rfl b_sl Tryd.underlying72 rfl szR (show 12 ≤ 12 by decide) [.bool s_n64a, v_n64a] rfl ?_)))
            refine (fits_any _ (S / 2) 63 wr true ⟨_, _, rfl, r_n64a⟩ fO (fit63 (S / 2) hz)).mono ?_
            rintro e w24 ⟨rfl, t_⟩
            replace r_n64a := r_n64a.below t_
            replace hLL := hLL.below t_
            replace b_z := b_z.below t_ b_z.lt
            replace b_sl := b_sl.below t_ b_sl.lt
            replace hB := hB.trans (t_.mono hB.size)
            clear t_
            go_wp2_with fail
            go_roundw
            case rel => exact ⟨6, ⟨by decide, by decide⟩, rfl, hLL, ⟨fun _ => hI1.1 (by decide), fun _ => hI1.2.1 (by decide), fun _ => hI1.2.2.1 (by decide), fun _ => hI1.2.2.2 (by decide)⟩⟩
            case measure => simp [intOf]
          · skip
            clear r_n45 r_n48 r_n51 r_n54 r_d r_n62 r_n63 r_n64b r_u r_u2 b_a b_b b_x b_y b_d b_o b_o2 b_u b_u2
            exact absurd (in_O _ _ _ (hI1.2.2.1 (by decide)) (hI1.2.2.2 (by decide)) hS) hz
        · skip
          have hI1 := hI.out
          have iA := hI1.1 (by decide)
          have iB := hI1.2.1 (by decide)
          have iX := hI1.2.2.1 (by decide)
          have iY := hI1.2.2.2 (by decide)
          clear hI1 hI hLL
          have iD := in_D _ _ _ _ _ _ _ _ _ _ hA hB_ hX hY hrOk iA iB hD
          have iO := in_O _ _ _ iX iY hS
          obtain ⟨G, G2, W, hV⟩ := v_nums t1 t2 t3 t4 r A B D D1 S M hrOk hA hB_ hD hD1 hM iA iB
          have hG := hV.hG
          have iG := hV.iG
          have hG2 := hV.hG2
          have hW := hV.hW
          have iW := hV.iW
          have iM := hV.iM
          have hGv := hV.hv
          clear hV
          have fG := few64 G iG
          have fW := few64 W iW
          have fG2 : Few G2 200 := by have e := hG2.out; have i := iG; unfold In64 at i; exact few128 _ (by omega)
          go_wp2_with (first
            | ((with_reducible refine at_loadD 96 72 ?_); refine L_load_all 72 _ (w2.heap.size) ([.bool s_n45, v_n45]) 72 _ rfl b_a Tryd.underlying72 rfl (szR) ?_))
          refine (vwhole_any _ A wr ⟨_, _, rfl, r_n45⟩ iA).mono ?_
          rintro e w24 ⟨rfl, t_⟩
          replace r_n45 := r_n45.below t_
          replace r_n48 := r_n48.below t_
          replace r_n51 := r_n51.below t_
          replace r_n54 := r_n54.below t_
          replace r_d := r_d.below t_
          replace r_n62 := r_n62.below t_
          replace r_n63 := r_n63.below t_
          replace r_n64a := r_n64a.below t_
          replace r_n64b := r_n64b.below t_
          replace r_u := r_u.below t_
          replace r_u2 := r_u2.below t_
          replace b_z := b_z.below t_ b_z.lt
          replace b_a := b_a.below t_ b_a.lt
          replace b_b := b_b.below t_ b_b.lt
          replace b_x := b_x.below t_ b_x.lt
          replace b_y := b_y.below t_ b_y.lt
          replace b_d := b_d.below t_ b_d.lt
          replace b_o := b_o.below t_ b_o.lt
          replace b_o2 := b_o2.below t_ b_o2.lt
          replace b_u := b_u.below t_ b_u.lt
          replace b_u2 := b_u2.below t_ b_u2.lt
          replace b_sl := b_sl.below t_ b_sl.lt
          replace hB := hB.trans (t_.mono hB.size)
          clear t_
          go_wp2_with (first
            | ((with_reducible refine at_binD 99 ?_); refine L_give (by rfl) (g_imul 2 _ _ .i64 (2) (r) (M) rfl rfl hM.out ?_)))
          refine (rgrown_any A M G 0 w24 iA iM hG).mono ?_
          rintro e w25 ⟨rfl, t_⟩
          replace r_n45 := r_n45.below t_
          replace r_n48 := r_n48.below t_
          replace r_n51 := r_n51.below t_
          replace r_n54 := r_n54.below t_
          replace r_d := r_d.below t_
          replace r_n62 := r_n62.below t_
          replace r_n63 := r_n63.below t_
          replace r_n64a := r_n64a.below t_
          replace r_n64b := r_n64b.below t_
          replace r_u := r_u.below t_
          replace r_u2 := r_u2.below t_
          replace b_z := b_z.below t_ b_z.lt
          replace b_a := b_a.below t_ b_a.lt
          replace b_b := b_b.below t_ b_b.lt
          replace b_x := b_x.below t_ b_x.lt
          replace b_y := b_y.below t_ b_y.lt
          replace b_d := b_d.below t_ b_d.lt
          replace b_o := b_o.below t_ b_o.lt
          replace b_o2 := b_o2.below t_ b_o2.lt
          replace b_u := b_u.below t_ b_u.lt
          replace b_u2 := b_u2.below t_ b_u2.lt
          replace b_sl := b_sl.below t_ b_sl.lt
          replace hB := hB.trans (t_.mono hB.size)
          clear t_
          go_wp2_with (first
            | ((with_reducible refine stop_region 17 ?_); intro X3 hX3))
          refine hX3.out ?_
          clear hX3
          refine wp_region_inv (by kernel_rfl) (by kernel_rfl) (fun t v wx => Below w25.heap.size w25 wx ∧ (t 0 = true → v 0 = .agg #[.bool s_u, v_u]) ∧ (t 1 = true → v 1 = .int .i64 (G)) ∧ (t 2 = true → RN wx (v 2) (G)) ∧ (t 3 = true → RN wx (v 3) (2)) ∧ (t 4 = true → RN wx (v 4) (G2)) ∧ (t 5 = true → RN wx (v 5) (W)) ∧ (t 6 = true → ∃ p, v 6 = .pointer (some ⟨p, 0, none⟩) ∧ p < wx.heap.size ∧ w25.heap.size ≤ p ∧ (t 7 = false → Blk wx p [.bool false, .slice none 0 0] 72) ∧ (t 7 = true → RA wx p (W))) ∧ (t 7 = true → t 6 = true)) ?_ ?_ ?_
          · exact ⟨(Below.refl _ _).drew, (fun h => by cases h), (fun h => by cases h), (fun h => by cases h), (fun h => by cases h), (fun h => by cases h), (fun h => by cases h), (fun h => by cases h), (fun h => by cases h)⟩
          · simp only [full, Act.put, List.setIfInBounds_toArray, List.set_cons_succ, List.set_cons_zero, Nat.zero_add, Nat.reduceAdd]
            intro i o ho t v wx hS hti hall
            obtain ⟨hC, k0, k1, k2, k3, k4, k5, k6, k7⟩ := hS
            rcases i with _ | _ | _ | _ | _ | _ | _ | _ | i
            · obtain rfl := Option.some.inj ho
              refine g_load_all 72 _ (p_u) ([.bool s_u, v_u]) 72 _ rfl (b_u.below hC b_u.lt) Tryd.underlying72 rfl (szR) ?_
              exact ⟨hC, newE rfl, keepE (by decide) k1, (fun h => by rw [setB_other _ _ _ (by decide)] at h; rw [setV_other _ _ _ _ (by decide)]; exact k2 h), (fun h => by rw [setB_other _ _ _ (by decide)] at h; rw [setV_other _ _ _ _ (by decide)]; exact k3 h), (fun h => by rw [setB_other _ _ _ (by decide)] at h; rw [setV_other _ _ _ _ (by decide)]; exact k4 h), (fun h => by rw [setB_other _ _ _ (by decide)] at h; rw [setV_other _ _ _ _ (by decide)]; exact k5 h), (fun h => by rw [setB_other _ _ _ (by decide)] at h; obtain ⟨p, e1, e2, e4, e3, e5⟩ := k6 h; refine ⟨p, by rw [setV_other _ _ _ _ (by decide)]; exact e1, e2, e4, fun h5 => ?_, fun h5 => ?_⟩ <;> rw [setB_other _ _ _ (by decide)] at h5 <;> first | exact e3 h5 | exact e5 h5), (fun h => by rw [setB_other _ _ _ (by decide)] at h ⊢; exact k7 h)⟩
            · obtain rfl := Option.some.inj ho
              refine g_move _ _ rfl ?_
              exact ⟨hC, keepE (by decide) k0, newE rfl, (fun h => by rw [setB_other _ _ _ (by decide)] at h; rw [setV_other _ _ _ _ (by decide)]; exact k2 h), (fun h => by rw [setB_other _ _ _ (by decide)] at h; rw [setV_other _ _ _ _ (by decide)]; exact k3 h), (fun h => by rw [setB_other _ _ _ (by decide)] at h; rw [setV_other _ _ _ _ (by decide)]; exact k4 h), (fun h => by rw [setB_other _ _ _ (by decide)] at h; rw [setV_other _ _ _ _ (by decide)]; exact k5 h), (fun h => by rw [setB_other _ _ _ (by decide)] at h; obtain ⟨p, e1, e2, e4, e3, e5⟩ := k6 h; refine ⟨p, by rw [setV_other _ _ _ _ (by decide)]; exact e1, e2, e4, fun h5 => ?_, fun h5 => ?_⟩ <;> rw [setB_other _ _ _ (by decide)] at h5 <;> first | exact e3 h5 | exact e5 h5), (fun h => by rw [setB_other _ _ _ (by decide)] at h ⊢; exact k7 h)⟩
            · obtain rfl := Option.some.inj ho
              have d1 := k1 (hall ⟨1, .data⟩ (by simp) rfl)
              refine g_call 36 _ _ [.int .i64 (G)] (kf36 _ _) (by show ([v 1] : List Value) = _; rw [d1]; (try rfl)) ((rof_any G wx iG).mono ?_)
              rintro e w' ⟨u_, rfl, hp, hb⟩
              exact ⟨_, rfl, hC.trans (hb.mono hC.size), keepE (by decide) k0, keepE (by decide) k1, (fun _ => by rw [setV_self]; exact hp), (fun h => by rw [setB_other _ _ _ (by decide)] at h; rw [setV_other _ _ _ _ (by decide)]; exact (k3 h).below hb), (fun h => by rw [setB_other _ _ _ (by decide)] at h; rw [setV_other _ _ _ _ (by decide)]; exact (k4 h).below hb), (fun h => by rw [setB_other _ _ _ (by decide)] at h; rw [setV_other _ _ _ _ (by decide)]; exact (k5 h).below hb), (fun h => by rw [setB_other _ _ _ (by decide)] at h; obtain ⟨p, e1, e2, e4, e3, e5⟩ := k6 h; refine ⟨p, by rw [setV_other _ _ _ _ (by decide)]; exact e1, Nat.lt_of_lt_of_le e2 hb.size, e4, fun h5 => ?_, fun h5 => ?_⟩ <;> rw [setB_other _ _ _ (by decide)] at h5 <;> first | exact (e3 h5).below hb e2 | exact (e5 h5).below hb), (fun h => by rw [setB_other _ _ _ (by decide)] at h ⊢; exact k7 h)⟩
            · obtain rfl := Option.some.inj ho
              refine g_call 36 _ _ [.int .i64 (2)] (kf36 _ _) (rfl) ((rof_any 2 wx j2).mono ?_)
              rintro e w' ⟨u_, rfl, hp, hb⟩
              exact ⟨_, rfl, hC.trans (hb.mono hC.size), keepE (by decide) k0, keepE (by decide) k1, (fun h => by rw [setB_other _ _ _ (by decide)] at h; rw [setV_other _ _ _ _ (by decide)]; exact (k2 h).below hb), (fun _ => by rw [setV_self]; exact hp), (fun h => by rw [setB_other _ _ _ (by decide)] at h; rw [setV_other _ _ _ _ (by decide)]; exact (k4 h).below hb), (fun h => by rw [setB_other _ _ _ (by decide)] at h; rw [setV_other _ _ _ _ (by decide)]; exact (k5 h).below hb), (fun h => by rw [setB_other _ _ _ (by decide)] at h; obtain ⟨p, e1, e2, e4, e3, e5⟩ := k6 h; refine ⟨p, by rw [setV_other _ _ _ _ (by decide)]; exact e1, Nat.lt_of_lt_of_le e2 hb.size, e4, fun h5 => ?_, fun h5 => ?_⟩ <;> rw [setB_other _ _ _ (by decide)] at h5 <;> first | exact (e3 h5).below hb e2 | exact (e5 h5).below hb), (fun h => by rw [setB_other _ _ _ (by decide)] at h ⊢; exact k7 h)⟩
            · obtain rfl := Option.some.inj ho
              have d2 := k2 (hall ⟨2, .data⟩ (by simp) rfl)
              have d3 := k3 (hall ⟨3, .data⟩ (by simp) rfl)
              refine g_call 33 _ _ [v 2, v 3] (kf33 _ _) (rfl) ((radd_any _ _ G 2 G2 wx d2 d3 fG f2 hG2).mono ?_)
              rintro e w' ⟨u_, rfl, hp, hb⟩
              exact ⟨_, rfl, hC.trans (hb.mono hC.size), keepE (by decide) k0, keepE (by decide) k1, (fun h => by rw [setB_other _ _ _ (by decide)] at h; rw [setV_other _ _ _ _ (by decide)]; exact (k2 h).below hb), (fun h => by rw [setB_other _ _ _ (by decide)] at h; rw [setV_other _ _ _ _ (by decide)]; exact (k3 h).below hb), (fun _ => by rw [setV_self]; exact hp), (fun h => by rw [setB_other _ _ _ (by decide)] at h; rw [setV_other _ _ _ _ (by decide)]; exact (k5 h).below hb), (fun h => by rw [setB_other _ _ _ (by decide)] at h; obtain ⟨p, e1, e2, e4, e3, e5⟩ := k6 h; refine ⟨p, by rw [setV_other _ _ _ _ (by decide)]; exact e1, Nat.lt_of_lt_of_le e2 hb.size, e4, fun h5 => ?_, fun h5 => ?_⟩ <;> rw [setB_other _ _ _ (by decide)] at h5 <;> first | exact (e3 h5).below hb e2 | exact (e5 h5).below hb), (fun h => by rw [setB_other _ _ _ (by decide)] at h ⊢; exact k7 h)⟩
            · obtain rfl := Option.some.inj ho
              have d0 := k0 (hall ⟨0, .data⟩ (by simp) rfl)
              have d4 := k4 (hall ⟨4, .data⟩ (by simp) rfl)
              refine g_call 33 _ _ [.agg #[.bool s_u, v_u], v 4] (kf33 _ _) (by show ([v 0, v 4] : List Value) = _; rw [d0]; (try rfl)) ((radd_any _ _ (D1 / 2) G2 W wx ⟨_, _, rfl, r_u.below hC⟩ d4 fU fG2 hW).mono ?_)
              rintro e w' ⟨u_, rfl, hp, hb⟩
              exact ⟨_, rfl, hC.trans (hb.mono hC.size), keepE (by decide) k0, keepE (by decide) k1, (fun h => by rw [setB_other _ _ _ (by decide)] at h; rw [setV_other _ _ _ _ (by decide)]; exact (k2 h).below hb), (fun h => by rw [setB_other _ _ _ (by decide)] at h; rw [setV_other _ _ _ _ (by decide)]; exact (k3 h).below hb), (fun h => by rw [setB_other _ _ _ (by decide)] at h; rw [setV_other _ _ _ _ (by decide)]; exact (k4 h).below hb), (fun _ => by rw [setV_self]; exact hp), (fun h => by rw [setB_other _ _ _ (by decide)] at h; obtain ⟨p, e1, e2, e4, e3, e5⟩ := k6 h; refine ⟨p, by rw [setV_other _ _ _ _ (by decide)]; exact e1, Nat.lt_of_lt_of_le e2 hb.size, e4, fun h5 => ?_, fun h5 => ?_⟩ <;> rw [setB_other _ _ _ (by decide)] at h5 <;> first | exact (e3 h5).below hb e2 | exact (e5 h5).below hb), (fun h => by rw [setB_other _ _ _ (by decide)] at h ⊢; exact k7 h)⟩
            · obtain rfl := Option.some.inj ho
              refine g_alloc 72 _ zeroR (fun w' h1 h2 => ?_)
              have hb := h1.toBelow
              exact ⟨hC.trans (hb.mono hC.size), keepE (by decide) k0, keepE (by decide) k1, (fun h => by rw [setB_other _ _ _ (by decide)] at h; rw [setV_other _ _ _ _ (by decide)]; exact (k2 h).below hb), (fun h => by rw [setB_other _ _ _ (by decide)] at h; rw [setV_other _ _ _ _ (by decide)]; exact (k3 h).below hb), (fun h => by rw [setB_other _ _ _ (by decide)] at h; rw [setV_other _ _ _ _ (by decide)]; exact (k4 h).below hb), (fun h => by rw [setB_other _ _ _ (by decide)] at h; rw [setV_other _ _ _ _ (by decide)]; exact (k5 h).below hb), (fun _ => ⟨wx.heap.size, setV_self _ _ _, h2.lt, hC.size, fun _ => h2, fun h => by rw [setB_other _ _ _ (by decide)] at h; have := k7 h; rw [hti] at this; cases this⟩), (fun _ => setB_self _ _)⟩
            · obtain rfl := Option.some.inj ho
              have ht_ := hall ⟨6, .data⟩ (by simp) rfl
              obtain ⟨p, e1, e2, e4, e3, e5⟩ := k6 ht_
              obtain ⟨s8, b8, e8, r8⟩ := k5 (hall ⟨5, .data⟩ (by simp) rfl)
              refine g_store_all 72 _ _ p [.bool s8, b8] _ 72 (show v 6 = _ from e1) (show v 5 = _ from e8) (e3 hti) szR rfl (one_rc _ _ r8.sl) (fun w' h1 h2 => ?_)
              exact ⟨h1.below hC e4, keepE (by decide) k0, keepE (by decide) k1, (fun h => by rw [setB_other _ _ _ (by decide)] at h; rw [setV_other _ _ _ _ (by decide)]; exact (k2 h).turn h1 (e3 hti) (by decide)), (fun h => by rw [setB_other _ _ _ (by decide)] at h; rw [setV_other _ _ _ _ (by decide)]; exact (k3 h).turn h1 (e3 hti) (by decide)), (fun h => by rw [setB_other _ _ _ (by decide)] at h; rw [setV_other _ _ _ _ (by decide)]; exact (k4 h).turn h1 (e3 hti) (by decide)), (fun h => by rw [setB_other _ _ _ (by decide)] at h; rw [setV_other _ _ _ _ (by decide)]; exact (k5 h).turn h1 (e3 hti) (by decide)), (fun h => ⟨p, by rw [setV_other _ _ _ _ (by decide)]; exact e1, Nat.lt_of_lt_of_le e2 h1.size, e4, (fun h => by have := setB_self t 7; rw [h] at this; cases this), fun _ => ⟨_, _, h2, r8.turn h1 (e3 hti) (by decide)⟩⟩), (fun _ => by rw [setB_other _ _ _ (by decide)]; exact ht_)⟩
            · simp at ho
          · simp only [full, Act.put, List.setIfInBounds_toArray, List.set_cons_succ, List.set_cons_zero, Nat.zero_add, Nat.reduceAdd]
            intro t v w26 hS ht
            obtain ⟨hC, k0, k1, k2, k3, k4, k5, k6, k7⟩ := hS
            obtain ⟨p_g, e1, -, e4, -, e5⟩ := k6 (ht 6 (by decide))
            obtain ⟨s_g, v_g, b_g, r_g⟩ := e5 (ht 7 (by decide))
            rw [e1]
            have d0 := k0 (ht 0 (by decide)); (try rw [d0])
            clear d0
            have d1 := k1 (ht 1 (by decide)); (try rw [d1])
            clear d1
            clear ht k0 k1 k2 k3 k4 k5 k6 k7 e1 e5
            generalize v 2 = y3_2
            generalize v 3 = y3_3
            generalize v 4 = y3_4
            generalize v 5 = y3_5
            generalize v 7 = y3_7
            have l_g : w.heap.size ≤ p_g := Nat.le_trans hB.size e4
            have o_g : w22.heap.size < p_g := Nat.lt_of_lt_of_le b_sl.lt e4
            clear e4
            replace r_n45 := r_n45.below hC
            replace r_n48 := r_n48.below hC
            replace r_n51 := r_n51.below hC
            replace r_n54 := r_n54.below hC
            replace r_d := r_d.below hC
            replace r_n62 := r_n62.below hC
            replace r_n63 := r_n63.below hC
            replace r_n64a := r_n64a.below hC
            replace r_n64b := r_n64b.below hC
            replace r_u := r_u.below hC
            replace r_u2 := r_u2.below hC
            replace b_z := b_z.below hC b_z.lt
            replace b_a := b_a.below hC b_a.lt
            replace b_b := b_b.below hC b_b.lt
            replace b_x := b_x.below hC b_x.lt
            replace b_y := b_y.below hC b_y.lt
            replace b_d := b_d.below hC b_d.lt
            replace b_o := b_o.below hC b_o.lt
            replace b_o2 := b_o2.below hC b_o2.lt
            replace b_u := b_u.below hC b_u.lt
            replace b_u2 := b_u2.below hC b_u2.lt
            replace b_sl := b_sl.below hC b_sl.lt
            replace hB := hB.trans (hC.mono hB.size)
            clear hC
            go_wp2_with (first
              | ((with_reducible refine at_loadDG 112 ?_); refine L_give (by rfl) (g_load_all 72 _ (p_g) ([.bool s_g, v_g]) 72 _ rfl b_g Tryd.underlying72 rfl (szR) ?_)))
            refine (fits_any _ W 63 w26 true ⟨_, _, rfl, r_g⟩ fW (fit63 W iW)).mono ?_
            rintro e w27 ⟨rfl, t_⟩
            replace r_n45 := r_n45.below t_
            replace r_n48 := r_n48.below t_
            replace r_n51 := r_n51.below t_
            replace r_n54 := r_n54.below t_
            replace r_d := r_d.below t_
            replace r_n62 := r_n62.below t_
            replace r_n63 := r_n63.below t_
            replace r_n64a := r_n64a.below t_
            replace r_n64b := r_n64b.below t_
            replace r_u := r_u.below t_
            replace r_u2 := r_u2.below t_
            replace r_g := r_g.below t_
            replace b_z := b_z.below t_ b_z.lt
            replace b_a := b_a.below t_ b_a.lt
            replace b_b := b_b.below t_ b_b.lt
            replace b_x := b_x.below t_ b_x.lt
            replace b_y := b_y.below t_ b_y.lt
            replace b_d := b_d.below t_ b_d.lt
            replace b_o := b_o.below t_ b_o.lt
            replace b_o2 := b_o2.below t_ b_o2.lt
            replace b_u := b_u.below t_ b_u.lt
            replace b_u2 := b_u2.below t_ b_u2.lt
            replace b_sl := b_sl.below t_ b_sl.lt
            replace b_g := b_g.below t_ b_g.lt
            replace hB := hB.trans (t_.mono hB.size)
            clear t_
            go_wp2_with (first
              | ((with_reducible refine stop_list 117 ?_); intro X9 hX9))
            refine hX9.out ?_
            clear hX9
            have hsg := r_d.sign
            by_cases hd : D < 0
            · rw [decide_eq_true hd] at hsg
              subst hsg
              go_wp2_with (first
                | ((with_reducible refine at_loadD 118 4 ?_); refine L_give (by rfl) (g_cell4 _ (p_d) 0 ([.bool true, v_d]) 72 (.bool true) rfl b_d (rfl) ?_))
                | ((with_reducible refine at_bld 119 ?_); refine L_give (by rfl) (g_bldRs_n ?_))
                | ((with_reducible refine at_storeX 10 28 ?_); refine L_store_all 28 _ _ (w.heap.size) (smc (0) (0) (0)) _ 28 rfl rfl b_z (szRs 0 0 0) (rfl) (one_smc _ _ _) ?_; have b0_z := b_z; clear b_z; intro w28 t_ b_z; replace r_n45 := r_n45.turn t_ b0_z (by decide); replace r_n48 := r_n48.turn t_ b0_z (by decide); replace r_n51 := r_n51.turn t_ b0_z (by decide); replace r_n54 := r_n54.turn t_ b0_z (by decide); replace r_d := r_d.turn t_ b0_z (by decide); replace r_n62 := r_n62.turn t_ b0_z (by decide); replace r_n63 := r_n63.turn t_ b0_z (by decide); replace r_n64a := r_n64a.turn t_ b0_z (by decide); replace r_n64b := r_n64b.turn t_ b0_z (by decide); replace r_u := r_u.turn t_ b0_z (by decide); replace r_u2 := r_u2.turn t_ b0_z (by decide); replace r_g := r_g.turn t_ b0_z (by decide); replace b_a := t_.blk b_a (by omega); replace b_b := t_.blk b_b (by omega); replace b_x := t_.blk b_x (by omega); replace b_y := t_.blk b_y (by omega); replace b_d := t_.blk b_d (by omega); replace b_o := t_.blk b_o (by omega); replace b_o2 := t_.blk b_o2 (by omega); replace b_u := t_.blk b_u (by omega); replace b_u2 := t_.blk b_u2 (by omega); replace b_sl := t_.blk b_sl (by omega); replace b_g := t_.blk b_g (by omega); replace hB := t_.below hB l_z; clear t_ b0_z))
              exact bodyPost_ret (results_blk_tmp rfl _ (smc (0) (0) (0)) (.int .i64 (3)) _ rfl rfl b_z Tryd.underlying28 rfl (szRs _ _ _)) rfl ⟨_, v_range t1 t2 t3 t4 r A B X Y hrOk hA hB_ hX hY ⟨iA, iB, iX, iY⟩ (by have e := hD.out; omega), rfl, hB⟩
            · rw [decide_eq_false hd] at hsg
              subst hsg
              go_wp2_with (first
                | ((with_reducible refine at_loadD 118 4 ?_); refine L_give (by rfl) (g_cell4 _ (p_d) 0 ([.bool false, v_d]) 72 (.bool false) rfl b_d (rfl) ?_))
                | ((with_reducible refine stop_region 22 ?_); intro X4 hX4))
              refine hX4.out ?_
              clear hX4
              have hB0 : w.heap.size ≤ w27.heap.size := hB.size
              have lt_z := b_z.lt
              have lt_a := b_a.lt
              have lt_b := b_b.lt
              have lt_x := b_x.lt
              have lt_y := b_y.lt
              have lt_d := b_d.lt
              have lt_o := b_o.lt
              have lt_o2 := b_o2.lt
              have lt_u := b_u.lt
              have lt_u2 := b_u2.lt
              have lt_sl := b_sl.lt
              have lt_g := b_g.lt
              refine wp_region_inv (by kernel_rfl) (by kernel_rfl) (fun t v wx => Below w.heap.size w27 wx ∧ Blk wx (w2.heap.size) ([.bool s_n45, v_n45]) 72 ∧ Blk wx (w5.heap.size) ([.bool s_n48, v_n48]) 72 ∧ Blk wx (w8.heap.size) ([.bool s_n51, v_n51]) 72 ∧ Blk wx (w11.heap.size) ([.bool s_n54, v_n54]) 72 ∧ Blk wx (p_d) ([.bool false, v_d]) 72 ∧ Blk wx (w17.heap.size) ([.bool s_n64a, v_n64a]) 72 ∧ Blk wx (w18.heap.size) ([.bool s_n64b, v_n64b]) 72 ∧ Blk wx (p_u) ([.bool s_u, v_u]) 72 ∧ Blk wx (p_u2) ([.bool s_u2, v_u2]) 72 ∧ Blk wx (w22.heap.size) ([.bool s_n45, v_n45, .bool s_n48, v_n48, .bool s_n51, v_n51, .bool s_n54, v_n54, .bool false, v_d, .bool s_n64a, v_n64a]) 72 ∧ Blk wx (p_g) ([.bool s_g, v_g]) 72 ∧ (RF wx s_n45 v_n45 (A)) ∧ (RF wx s_n48 v_n48 (B)) ∧ (RF wx s_n51 v_n51 (X)) ∧ (RF wx s_n54 v_n54 (Y)) ∧ (RF wx false v_d (D)) ∧ (RF wx s_n62 v_n62 (S)) ∧ (RF wx s_n63 v_n63 (2)) ∧ (RF wx s_n64a v_n64a (S / 2)) ∧ (RF wx s_n64b v_n64b (S % 2)) ∧ (RF wx s_u v_u (D1 / 2)) ∧ (RF wx s_u2 v_u2 (D1 % 2)) ∧ (RF wx s_g v_g (W)) ∧ (t 0 = true → v 0 = .agg #[.bool s_n64a, v_n64a]) ∧ (t 1 = true → v 1 = .int .i64 (S / 2)) ∧ (t 2 = true → v 2 = .agg #[.bool false, v_d]) ∧ (t 3 = true → v 3 = .int .i64 (D)) ∧ (t 4 = true → v 4 = .agg #[.bool s_g, v_g]) ∧ (t 5 = true → v 5 = .int .i64 (W)) ∧ (t 6 = true → v 6 = .agg (smc (S / 2) (D) (W)).toArray) ∧ ((t 7 = false → Blk wx (w.heap.size) (smc 0 0 0) 28) ∧ (t 7 = true → Blk wx (w.heap.size) (smc (S / 2) (D) (W)) 28)) ∧ (t 8 = true → v 8 = .int .i64 (0))) ?_ ?_ ?_
              · exact ⟨(Below.refl _ _).drew, b_a.drew, b_b.drew, b_x.drew, b_y.drew, b_d.drew, b_o.drew, b_o2.drew, b_u.drew, b_u2.drew, b_sl.drew, b_g.drew, r_n45.below (Below.refl _ _).drew, r_n48.below (Below.refl _ _).drew, r_n51.below (Below.refl _ _).drew, r_n54.below (Below.refl _ _).drew, r_d.below (Below.refl _ _).drew, r_n62.below (Below.refl _ _).drew, r_n63.below (Below.refl _ _).drew, r_n64a.below (Below.refl _ _).drew, r_n64b.below (Below.refl _ _).drew, r_u.below (Below.refl _ _).drew, r_u2.below (Below.refl _ _).drew, r_g.below (Below.refl _ _).drew, (fun h => by cases h), (fun h => by cases h), (fun h => by cases h), (fun h => by cases h), (fun h => by cases h), (fun h => by cases h), (fun h => by cases h), ⟨fun _ => b_z.drew, (fun h => by cases h)⟩, (fun h => by cases h)⟩
              · simp only [full, Act.put, List.setIfInBounds_toArray, List.set_cons_succ, List.set_cons_zero, Nat.zero_add, Nat.reduceAdd]
                intro i o ho t v wx hS hti hall
                obtain ⟨hC, q_a, q_b, q_x, q_y, q_d, q_o, q_o2, q_u, q_u2, q_sl, q_g, g_r_n45, g_r_n48, g_r_n51, g_r_n54, g_r_d, g_r_n62, g_r_n63, g_r_n64a, g_r_n64b, g_r_u, g_r_u2, g_r_g, k0, k1, k2, k3, k4, k5, k6, k7, k8⟩ := hS
                have hnw : w.heap.size ≤ wx.heap.size := Nat.le_trans hB0 hC.size
                rcases i with _ | _ | _ | _ | _ | _ | _ | _ | _ | i
                · obtain rfl := Option.some.inj ho
                  refine g_load_all 72 _ (w17.heap.size) ([.bool s_n64a, v_n64a]) 72 _ rfl q_o Tryd.underlying72 rfl (szR) ?_
                  exact ⟨hC, q_a, q_b, q_x, q_y, q_d, q_o, q_o2, q_u, q_u2, q_sl, q_g, g_r_n45, g_r_n48, g_r_n51, g_r_n54, g_r_d, g_r_n62, g_r_n63, g_r_n64a, g_r_n64b, g_r_u, g_r_u2, g_r_g, newE rfl, keepE (by decide) k1, keepE (by decide) k2, keepE (by decide) k3, keepE (by decide) k4, keepE (by decide) k5, keepE (by decide) k6, ⟨fun h => by rw [setB_other _ _ _ (by decide)] at h; exact k7.1 h, fun h => by rw [setB_other _ _ _ (by decide)] at h; exact k7.2 h⟩, keepE (by decide) k8⟩
                · obtain rfl := Option.some.inj ho
                  have d0 := k0 (hall ⟨0, .data⟩ (by simp) rfl)
                  refine g_call 39 _ _ [.agg #[.bool s_n64a, v_n64a]] (kf39 _ _) (by show ([v 0] : List Value) = _; rw [d0]; (try rfl)) ((vwhole_any _ (S / 2) wx ⟨_, _, rfl, g_r_n64a⟩ iO).mono ?_)
                  rintro e w' ⟨rfl, hb⟩
                  exact ⟨_, rfl, hC.trans (hb.mono hnw), q_a.below hb q_a.lt, q_b.below hb q_b.lt, q_x.below hb q_x.lt, q_y.below hb q_y.lt, q_d.below hb q_d.lt, q_o.below hb q_o.lt, q_o2.below hb q_o2.lt, q_u.below hb q_u.lt, q_u2.below hb q_u2.lt, q_sl.below hb q_sl.lt, q_g.below hb q_g.lt, g_r_n45.below hb, g_r_n48.below hb, g_r_n51.below hb, g_r_n54.below hb, g_r_d.below hb, g_r_n62.below hb, g_r_n63.below hb, g_r_n64a.below hb, g_r_n64b.below hb, g_r_u.below hb, g_r_u2.below hb, g_r_g.below hb, keepE (by decide) k0, newE rfl, keepE (by decide) k2, keepE (by decide) k3, keepE (by decide) k4, keepE (by decide) k5, keepE (by decide) k6, ⟨fun h => by rw [setB_other _ _ _ (by decide)] at h; exact (k7.1 h).below hb (k7.1 h).lt, fun h => by rw [setB_other _ _ _ (by decide)] at h; exact (k7.2 h).below hb (k7.2 h).lt⟩, keepE (by decide) k8⟩
                · obtain rfl := Option.some.inj ho
                  refine g_load_all 72 _ (p_d) ([.bool false, v_d]) 72 _ rfl q_d Tryd.underlying72 rfl (szR) ?_
                  exact ⟨hC, q_a, q_b, q_x, q_y, q_d, q_o, q_o2, q_u, q_u2, q_sl, q_g, g_r_n45, g_r_n48, g_r_n51, g_r_n54, g_r_d, g_r_n62, g_r_n63, g_r_n64a, g_r_n64b, g_r_u, g_r_u2, g_r_g, keepE (by decide) k0, keepE (by decide) k1, newE rfl, keepE (by decide) k3, keepE (by decide) k4, keepE (by decide) k5, keepE (by decide) k6, ⟨fun h => by rw [setB_other _ _ _ (by decide)] at h; exact k7.1 h, fun h => by rw [setB_other _ _ _ (by decide)] at h; exact k7.2 h⟩, keepE (by decide) k8⟩
                · obtain rfl := Option.some.inj ho
                  have d2 := k2 (hall ⟨2, .data⟩ (by simp) rfl)
                  refine g_call 39 _ _ [.agg #[.bool false, v_d]] (kf39 _ _) (by show ([v 2] : List Value) = _; rw [d2]; (try rfl)) ((vwhole_any _ D wx ⟨_, _, rfl, g_r_d⟩ iD).mono ?_)
                  rintro e w' ⟨rfl, hb⟩
                  exact ⟨_, rfl, hC.trans (hb.mono hnw), q_a.below hb q_a.lt, q_b.below hb q_b.lt, q_x.below hb q_x.lt, q_y.below hb q_y.lt, q_d.below hb q_d.lt, q_o.below hb q_o.lt, q_o2.below hb q_o2.lt, q_u.below hb q_u.lt, q_u2.below hb q_u2.lt, q_sl.below hb q_sl.lt, q_g.below hb q_g.lt, g_r_n45.below hb, g_r_n48.below hb, g_r_n51.below hb, g_r_n54.below hb, g_r_d.below hb, g_r_n62.below hb, g_r_n63.below hb, g_r_n64a.below hb, g_r_n64b.below hb, g_r_u.below hb, g_r_u2.below hb, g_r_g.below hb, keepE (by decide) k0, keepE (by decide) k1, keepE (by decide) k2, newE rfl, keepE (by decide) k4, keepE (by decide) k5, keepE (by decide) k6, ⟨fun h => by rw [setB_other _ _ _ (by decide)] at h; exact (k7.1 h).below hb (k7.1 h).lt, fun h => by rw [setB_other _ _ _ (by decide)] at h; exact (k7.2 h).below hb (k7.2 h).lt⟩, keepE (by decide) k8⟩
                · obtain rfl := Option.some.inj ho
                  refine g_load_all 72 _ (p_g) ([.bool s_g, v_g]) 72 _ rfl q_g Tryd.underlying72 rfl (szR) ?_
                  exact ⟨hC, q_a, q_b, q_x, q_y, q_d, q_o, q_o2, q_u, q_u2, q_sl, q_g, g_r_n45, g_r_n48, g_r_n51, g_r_n54, g_r_d, g_r_n62, g_r_n63, g_r_n64a, g_r_n64b, g_r_u, g_r_u2, g_r_g, keepE (by decide) k0, keepE (by decide) k1, keepE (by decide) k2, keepE (by decide) k3, newE rfl, keepE (by decide) k5, keepE (by decide) k6, ⟨fun h => by rw [setB_other _ _ _ (by decide)] at h; exact k7.1 h, fun h => by rw [setB_other _ _ _ (by decide)] at h; exact k7.2 h⟩, keepE (by decide) k8⟩
                · obtain rfl := Option.some.inj ho
                  have d4 := k4 (hall ⟨4, .data⟩ (by simp) rfl)
                  refine g_call 39 _ _ [.agg #[.bool s_g, v_g]] (kf39 _ _) (by show ([v 4] : List Value) = _; rw [d4]; (try rfl)) ((vwhole_any _ W wx ⟨_, _, rfl, g_r_g⟩ iW).mono ?_)
                  rintro e w' ⟨rfl, hb⟩
                  exact ⟨_, rfl, hC.trans (hb.mono hnw), q_a.below hb q_a.lt, q_b.below hb q_b.lt, q_x.below hb q_x.lt, q_y.below hb q_y.lt, q_d.below hb q_d.lt, q_o.below hb q_o.lt, q_o2.below hb q_o2.lt, q_u.below hb q_u.lt, q_u2.below hb q_u2.lt, q_sl.below hb q_sl.lt, q_g.below hb q_g.lt, g_r_n45.below hb, g_r_n48.below hb, g_r_n51.below hb, g_r_n54.below hb, g_r_d.below hb, g_r_n62.below hb, g_r_n63.below hb, g_r_n64a.below hb, g_r_n64b.below hb, g_r_u.below hb, g_r_u2.below hb, g_r_g.below hb, keepE (by decide) k0, keepE (by decide) k1, keepE (by decide) k2, keepE (by decide) k3, keepE (by decide) k4, newE rfl, keepE (by decide) k6, ⟨fun h => by rw [setB_other _ _ _ (by decide)] at h; exact (k7.1 h).below hb (k7.1 h).lt, fun h => by rw [setB_other _ _ _ (by decide)] at h; exact (k7.2 h).below hb (k7.2 h).lt⟩, keepE (by decide) k8⟩
                · obtain rfl := Option.some.inj ho
                  have d1 := k1 (hall ⟨1, .data⟩ (by simp) rfl)
                  have d3 := k3 (hall ⟨3, .data⟩ (by simp) rfl)
                  have d5 := k5 (hall ⟨5, .data⟩ (by simp) rfl)
                  refine g_bldRs_012 _ _ _ (S / 2) (D) (W) (show v 1 = _ from d1) (show v 3 = _ from d3) (show v 5 = _ from d5) ?_
                  exact ⟨hC, q_a, q_b, q_x, q_y, q_d, q_o, q_o2, q_u, q_u2, q_sl, q_g, g_r_n45, g_r_n48, g_r_n51, g_r_n54, g_r_d, g_r_n62, g_r_n63, g_r_n64a, g_r_n64b, g_r_u, g_r_u2, g_r_g, keepE (by decide) k0, keepE (by decide) k1, keepE (by decide) k2, keepE (by decide) k3, keepE (by decide) k4, keepE (by decide) k5, newE rfl, ⟨fun h => by rw [setB_other _ _ _ (by decide)] at h; exact k7.1 h, fun h => by rw [setB_other _ _ _ (by decide)] at h; exact k7.2 h⟩, keepE (by decide) k8⟩
                · obtain rfl := Option.some.inj ho
                  have hold := k7.1 hti
                  have hlo := l_z
                  have d6 := k6 (hall ⟨6, .data⟩ (by simp) rfl)
                  refine g_store_all 28 _ _ (w.heap.size) (smc (S / 2) (D) (W)) _ 28 rfl (show v 6 = _ from d6) hold (szRs 0 0 0) rfl (one_smc _ _ _) (fun w' h1 h2 => ?_)
                  exact ⟨h1.below hC hlo, h1.blk q_a (by omega), h1.blk q_b (by omega), h1.blk q_x (by omega), h1.blk q_y (by omega), h1.blk q_d (by omega), h1.blk q_o (by omega), h1.blk q_o2 (by omega), h1.blk q_u (by omega), h1.blk q_u2 (by omega), h1.blk q_sl (by omega), h1.blk q_g (by omega), g_r_n45.turn h1 hold (by decide), g_r_n48.turn h1 hold (by decide), g_r_n51.turn h1 hold (by decide), g_r_n54.turn h1 hold (by decide), g_r_d.turn h1 hold (by decide), g_r_n62.turn h1 hold (by decide), g_r_n63.turn h1 hold (by decide), g_r_n64a.turn h1 hold (by decide), g_r_n64b.turn h1 hold (by decide), g_r_u.turn h1 hold (by decide), g_r_u2.turn h1 hold (by decide), g_r_g.turn h1 hold (by decide), keepE (by decide) k0, keepE (by decide) k1, keepE (by decide) k2, keepE (by decide) k3, keepE (by decide) k4, keepE (by decide) k5, keepE (by decide) k6, ⟨(fun h => by have := setB_self t 7; rw [h] at this; cases this), fun _ => h2⟩, keepE (by decide) k8⟩
                · obtain rfl := Option.some.inj ho
                  refine g_assign _ _ rfl ?_
                  exact ⟨hC, q_a, q_b, q_x, q_y, q_d, q_o, q_o2, q_u, q_u2, q_sl, q_g, g_r_n45, g_r_n48, g_r_n51, g_r_n54, g_r_d, g_r_n62, g_r_n63, g_r_n64a, g_r_n64b, g_r_u, g_r_u2, g_r_g, keepE (by decide) k0, keepE (by decide) k1, keepE (by decide) k2, keepE (by decide) k3, keepE (by decide) k4, keepE (by decide) k5, keepE (by decide) k6, ⟨fun h => by rw [setB_other _ _ _ (by decide)] at h; exact k7.1 h, fun h => by rw [setB_other _ _ _ (by decide)] at h; exact k7.2 h⟩, newE rfl⟩
                · simp at ho
              · simp only [full, Act.put, List.setIfInBounds_toArray, List.set_cons_succ, List.set_cons_zero, Nat.zero_add, Nat.reduceAdd]
                intro t v w28 hS ht
                obtain ⟨hC, q_a, q_b, q_x, q_y, q_d, q_o, q_o2, q_u, q_u2, q_sl, q_g, g_r_n45, g_r_n48, g_r_n51, g_r_n54, g_r_d, g_r_n62, g_r_n63, g_r_n64a, g_r_n64b, g_r_u, g_r_u2, g_r_g, k0, k1, k2, k3, k4, k5, k6, k7, k8⟩ := hS
                have h_z := k7.2 (ht 7 (by decide))
                have d0 := k0 (ht 0 (by decide)); (try rw [d0])
                clear d0
                have d1 := k1 (ht 1 (by decide)); (try rw [d1])
                clear d1
                have d2 := k2 (ht 2 (by decide)); (try rw [d2])
                clear d2
                have d3 := k3 (ht 3 (by decide)); (try rw [d3])
                clear d3
                have d4 := k4 (ht 4 (by decide)); (try rw [d4])
                clear d4
                have d5 := k5 (ht 5 (by decide)); (try rw [d5])
                clear d5
                have d6 := k6 (ht 6 (by decide)); (try rw [d6])
                clear d6
                have d8 := k8 (ht 8 (by decide)); (try rw [d8])
                clear d8
                clear ht k0 k1 k2 k3 k4 k5 k6 k7 k8 lt_z lt_a lt_b lt_x lt_y lt_d lt_o lt_o2 lt_u lt_u2 lt_sl lt_g
                generalize v 7 = y4_7
                replace b_a := q_a
                clear q_a
                replace b_b := q_b
                clear q_b
                replace b_x := q_x
                clear q_x
                replace b_y := q_y
                clear q_y
                replace b_d := q_d
                clear q_d
                replace b_o := q_o
                clear q_o
                replace b_o2 := q_o2
                clear q_o2
                replace b_u := q_u
                clear q_u
                replace b_u2 := q_u2
                clear q_u2
                replace b_sl := q_sl
                clear q_sl
                replace b_g := q_g
                clear q_g
                replace r_n45 := g_r_n45
                clear g_r_n45
                replace r_n48 := g_r_n48
                clear g_r_n48
                replace r_n51 := g_r_n51
                clear g_r_n51
                replace r_n54 := g_r_n54
                clear g_r_n54
                replace r_d := g_r_d
                clear g_r_d
                replace r_n62 := g_r_n62
                clear g_r_n62
                replace r_n63 := g_r_n63
                clear g_r_n63
                replace r_n64a := g_r_n64a
                clear g_r_n64a
                replace r_n64b := g_r_n64b
                clear g_r_n64b
                replace r_u := g_r_u
                clear g_r_u
                replace r_u2 := g_r_u2
                clear g_r_u2
                replace r_g := g_r_g
                clear g_r_g
                replace b_z := h_z
                clear h_z
                replace hB := hB.trans hC
                clear hC hB0
                go_wp2_with fail
                exact bodyPost_ret (results_blk_tmp rfl _ (smc (S / 2) (D) (W)) (.int .i64 (0)) _ rfl rfl b_z Tryd.underlying28 rfl (szRs _ _ _)) rfl ⟨((S / 2, D, W), 0), by rw [v_ok t1 t2 t3 t4 r A B X Y G hrOk hA hB_ hX hY ⟨iA, iB, iX, iY⟩ (by have e := hD.out; omega) hGv, hD.out, hS.out, hD1.out, hG2.out, hW.out], rfl, hB⟩

theorem vround_any (t1 t2 t3 t4 r : Int) (w : World) (i1 : In64 t1) (i2 : In64 t2) (i3 : In64 t3) (i4 : In64 t4) (O D B E : Int) (h : Shut (vrd t1 t2 t3 t4 r = ((O, D, B), E))) :
    Calls Tryd.prog 12 #[.int .i64 t1, .int .i64 t2, .int .i64 t3, .int .i64 t4, .int .i64 r] w fun e w' => e = .returned (.tuple #[.agg (smc (O) (D) (B)).toArray, .int .i64 (E)]) ∧ Below w.heap.size w w' := by
  have h := h.out
  by_cases h0 : r < 0
  · rw [v_arg t1 t2 t3 t4 r (fun n => by have := n.1; omega)] at h; cases h; exact vround_a t1 t2 t3 t4 r w h0
  by_cases h1 : 100000000 < r
  · rw [v_arg t1 t2 t3 t4 r (fun n => by have := n.1; omega)] at h; cases h; exact vround_b t1 t2 t3 t4 r w h0 h1
  by_cases h2 : t4 < t1
  · rw [v_arg t1 t2 t3 t4 r (fun n => by have := n.2.1; omega)] at h; cases h; exact vround_c t1 t2 t3 t4 r w h0 h1 h2
  by_cases h3 : t3 < t2
  · rw [v_arg t1 t2 t3 t4 r (fun n => by have := n.2.2; omega)] at h; cases h; exact vround_d t1 t2 t3 t4 r w h0 h1 h2 h3
  have k1 := i1
  have k2 := i2
  have k3 := i3
  have k4 := i4
  unfold In64 at k1 k2 k3 k4
  refine (vround_l t1 t2 t3 t4 r _ _ _ _ _ _ _ _ w ⟨⟨by omega, by omega⟩, by omega, by omega⟩ h0 h1 h2 h3 i1 i2 i3 i4 rfl rfl rfl rfl rfl rfl rfl rfl (few128 _ (by omega)) (few128 _ (by omega)) (few128 _ (by omega)) (few128 _ (by omega)) (few128 _ (by omega)) (few128 _ (by omega)) (few128 _ (by omega)) (few128 _ (by omega)) (few128 _ (by omega)) (few128 _ (by omega)) (by unfold In64; omega) (by unfold In64; omega) (few128 _ (by omega)) (few128 _ (by omega))).mono ?_
  rintro e w' ⟨R, hR, rfl, hb⟩
  rw [h] at hR
  subst hR
  exact ⟨rfl, hb⟩
end Go.Proofs.YtpenicjlpiechaaDoor.Wd
