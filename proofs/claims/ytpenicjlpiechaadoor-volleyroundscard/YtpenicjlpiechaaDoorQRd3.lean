/- What the reference's Grown answers, at all numbers of 64 bits; nothing that was there is changed. -/
import Derived.Test.YtpenicjlpiechaaDoorQRd1
namespace Go.Proofs.YtpenicjlpiechaaDoor.Wd
set_option maxRecDepth 10000
open Go Go.RowKit
set_option linter.unusedVariables false

set_option maxRecDepth 10000 in
set_option maxHeartbeats 4000000 in
theorem rgrown_a (n q : Int) (w : World) (h0 : n < 0) :
    Calls Tryd.prog 38 #[.int .i64 n, .int .i64 q] w fun e w' => e = .returned (.tuple #[.int .i64 (0), .int .i64 (1)]) ∧ Below w.heap.size w w' := by
  go_enter Tryd.func38, Tryd.ntmps38
  go_wp2_with (first
    | ((with_reducible refine at_binD 9 ?_); refine L_give (by rfl) (g_ilss 2 _ _ .i64 _ _ true rfl rfl (decide_eq_true h0) ?_)))
  go_ret2
  exact ⟨rfl, Below.refl _ _⟩

set_option maxRecDepth 10000 in
set_option maxHeartbeats 4000000 in
theorem rgrown_b (n q : Int) (w : World) (h0 : ¬ n < 0) (h1 : q < 0) :
    Calls Tryd.prog 38 #[.int .i64 n, .int .i64 q] w fun e w' => e = .returned (.tuple #[.int .i64 (0), .int .i64 (1)]) ∧ Below w.heap.size w w' := by
  go_enter Tryd.func38, Tryd.ntmps38
  go_wp2_with (first
    | ((with_reducible refine at_binD 9 ?_); refine L_give (by rfl) (g_ilss 2 _ _ .i64 _ _ false rfl rfl (decide_eq_false h0) ?_))
    | ((with_reducible refine at_binD 12 ?_); refine L_give (by rfl) (g_ilss 2 _ _ .i64 _ _ true rfl rfl (decide_eq_true h1) ?_)))
  go_ret2
  exact ⟨rfl, Below.refl _ _⟩

set_option maxRecDepth 10000 in
set_option maxHeartbeats 4000000 in
theorem rgrown_even (n q P V E : Int) (w : World) (h0 : ¬ n < 0) (h1 : ¬ q < 0) (hn : In64 n) (hq : In64 q) (hP : Hid (n * q = P)) (hm : (P % 1000000000).natAbs = 0) (j9 : In64 1000000000) (fn : Few n 200) (fq : Few q 200) (fP : Few P 200) (f9 : Few 1000000000 200) (fQ : Few (P / 1000000000) 200) (hV : Hid (wh (P / 1000000000) = (V, E))) :
    Calls Tryd.prog 38 #[.int .i64 n, .int .i64 q] w fun e w' => e = .returned (.tuple #[.int .i64 (V), .int .i64 (E)]) ∧ Below w.heap.size w w' := by
  go_enter Tryd.func38, Tryd.ntmps38
  go_wp2_with (first
    | ((with_reducible refine at_binD 9 ?_); refine L_give (by rfl) (g_ilss 2 _ _ .i64 _ _ false rfl rfl (decide_eq_false h0) ?_))
    | ((with_reducible refine at_binD 12 ?_); refine L_give (by rfl) (g_ilss 2 _ _ .i64 _ _ false rfl rfl (decide_eq_false h1) ?_)))
  refine (rof_any n w hn).mono ?_
  rintro e w1 ⟨_, rfl, ⟨s_n16, v_n16, rfl, r_n16⟩, t_⟩
  have hB := t_
  clear t_
  go_wp2_with fail
  refine (rof_any q w1 hq).mono ?_
  rintro e w2 ⟨_, rfl, ⟨s_n18, v_n18, rfl, r_n18⟩, t_⟩
  replace r_n16 := r_n16.below t_
  replace hB := hB.trans (t_.mono hB.size)
  clear t_
  go_wp2_with fail
  refine (rtimes_any _ _ n q P w2 ⟨_, _, rfl, r_n16⟩ ⟨_, _, rfl, r_n18⟩ fn fq hP).mono ?_
  rintro e w3 ⟨_, rfl, ⟨s_n19, v_n19, rfl, r_n19⟩, t_⟩
  replace r_n16 := r_n16.below t_
  replace r_n18 := r_n18.below t_
  replace hB := hB.trans (t_.mono hB.size)
  clear t_
  go_wp2_with fail
  refine (rof_any 1000000000 w3 j9).mono ?_
  rintro e w4 ⟨_, rfl, ⟨s_n20, v_n20, rfl, r_n20⟩, t_⟩
  replace r_n16 := r_n16.below t_
  replace r_n18 := r_n18.below t_
  replace r_n19 := r_n19.below t_
  replace hB := hB.trans (t_.mono hB.size)
  clear t_
  go_wp2_with fail
  refine (rdiv_any _ _ P 1000000000 w4 ⟨_, _, rfl, r_n19⟩ ⟨_, _, rfl, r_n20⟩ fP f9 (by omega)).mono ?_
  rintro e w5 ⟨_, _, rfl, ⟨s_n21a, v_n21a, rfl, r_n21a⟩, ⟨s_n21b, v_n21b, rfl, r_n21b⟩, t_⟩
  replace r_n16 := r_n16.below t_
  replace r_n18 := r_n18.below t_
  replace r_n19 := r_n19.below t_
  replace r_n20 := r_n20.below t_
  replace hB := hB.trans (t_.mono hB.size)
  clear t_
  go_wp2_with (first
    | ((with_reducible refine at_allocD 6 72 ?_); refine L_alloc 72 ([.bool false, .slice none 0 0]) zeroR ?_; intro w6 t_ b_q; have l_q : w.heap.size ≤ w5.heap.size := hB.size; replace r_n16 := r_n16.below t_.toBelow; replace r_n18 := r_n18.below t_.toBelow; replace r_n19 := r_n19.below t_.toBelow; replace r_n20 := r_n20.below t_.toBelow; replace r_n21a := r_n21a.below t_.toBelow; replace r_n21b := r_n21b.below t_.toBelow; replace hB := t_.below hB l_q; clear t_)
    | ((with_reducible refine at_allocD 7 72 ?_); refine L_alloc 72 ([.bool false, .slice none 0 0]) zeroR ?_; intro w7 t_ b_m; have l_m : w.heap.size ≤ w6.heap.size := hB.size; have o_m := b_q.lt; replace r_n16 := r_n16.below t_.toBelow; replace r_n18 := r_n18.below t_.toBelow; replace r_n19 := r_n19.below t_.toBelow; replace r_n20 := r_n20.below t_.toBelow; replace r_n21a := r_n21a.below t_.toBelow; replace r_n21b := r_n21b.below t_.toBelow; replace b_q := t_.blk b_q (by omega); replace hB := t_.below hB l_m; clear t_)
    | ((with_reducible refine at_storeX 6 72 ?_); refine L_store_all 72 _ _ (w5.heap.size) ([.bool s_n21a, v_n21a]) _ 72 rfl rfl b_q (szR) (rfl) (one_rc _ _ r_n21a.sl) ?_; have b0_q := b_q; clear b_q; intro w8 t_ b_q; replace r_n16 := r_n16.turn t_ b0_q (by decide); replace r_n18 := r_n18.turn t_ b0_q (by decide); replace r_n19 := r_n19.turn t_ b0_q (by decide); replace r_n20 := r_n20.turn t_ b0_q (by decide); replace r_n21a := r_n21a.turn t_ b0_q (by decide); replace r_n21b := r_n21b.turn t_ b0_q (by decide); replace b_m := t_.blk b_m (by omega); replace hB := t_.below hB l_q; clear t_ b0_q)
    | ((with_reducible refine at_storeX 7 72 ?_); refine L_store_all 72 _ _ (w6.heap.size) ([.bool s_n21b, v_n21b]) _ 72 rfl rfl b_m (szR) (rfl) (one_rc _ _ r_n21b.sl) ?_; have b0_m := b_m; clear b_m; intro w9 t_ b_m; replace r_n16 := r_n16.turn t_ b0_m (by decide); replace r_n18 := r_n18.turn t_ b0_m (by decide); replace r_n19 := r_n19.turn t_ b0_m (by decide); replace r_n20 := r_n20.turn t_ b0_m (by decide); replace r_n21a := r_n21a.turn t_ b0_m (by decide); replace r_n21b := r_n21b.turn t_ b0_m (by decide); replace b_q := t_.blk b_q (by omega); replace hB := t_.below hB l_m; clear t_ b0_m)
    | ((with_reducible refine stop_list 24 ?_); intro X0 hX0))
  refine hX0.out ?_
  clear hX0
  obtain ⟨l, rdx, hcl, hvl⟩ := r_n21b.list
  obtain ⟨g_, cap_, sp_, en, -⟩ := rdx
  have hlen : ¬ (0 : Int) < (l.length : Nat) := by
    by_cases hl : l = []
    · rw [hl]; decide
    · have h8 := hcl.ge hl
      have h9 : 0 < 2 ^ (l.length - 1) := Nat.two_pow_pos _
      omega
  clear hcl hvl
  go_wp2_with (first
    | ((with_reducible refine at_loadD 25 70 ?_); refine L_give (by rfl) (g_cell70 _ (w6.heap.size) 1 ([.bool s_n21b, v_n21b]) 72 (v_n21b) rfl b_m (rfl) ?_))
    | ((with_reducible refine at_callDG 26 ?_); refine L_give (by rfl) (g_len _ _ _ _ en ?_))
    | ((with_reducible refine at_binD 27 ?_); refine L_give (by rfl) (g_igtr 3 _ _ .i64 _ _ false rfl rfl (decide_eq_false hlen) ?_))
    | ((with_reducible refine at_loadD 31 72 ?_); refine L_load_all 72 _ (w5.heap.size) ([.bool s_n21a, v_n21a]) 72 _ rfl b_q Tryd.underlying72 rfl (szR) ?_))
  refine (rwhole_any _ (P / 1000000000) V E w9 ⟨_, _, rfl, r_n21a⟩ fQ hV).mono ?_
  rintro e w10 ⟨rfl, t_⟩
  replace r_n16 := r_n16.below t_
  replace r_n18 := r_n18.below t_
  replace r_n19 := r_n19.below t_
  replace r_n20 := r_n20.below t_
  replace r_n21a := r_n21a.below t_
  replace r_n21b := r_n21b.below t_
  replace b_q := b_q.below t_ b_q.lt
  replace b_m := b_m.below t_ b_m.lt
  replace hB := hB.trans (t_.mono hB.size)
  clear t_
  go_wp2_with fail
  go_ret2
  exact ⟨rfl, hB⟩

set_option maxRecDepth 10000 in
set_option maxHeartbeats 4000000 in
theorem rgrown_more (n q P Z V E : Int) (w : World) (h0 : ¬ n < 0) (h1 : ¬ q < 0) (hn : In64 n) (hq : In64 q) (hP : Hid (n * q = P)) (hm : (P % 1000000000).natAbs ≠ 0) (j9 : In64 1000000000) (fn : Few n 200) (fq : Few q 200) (fP : Few P 200) (f9 : Few 1000000000 200) (fQ : Few (P / 1000000000) 200) (j1 : In64 1) (f1 : Few 1 200) (hZ : Hid (P / 1000000000 + 1 = Z)) (fZ : Few Z 200) (hV : Hid (wh Z = (V, E))) :
    Calls Tryd.prog 38 #[.int .i64 n, .int .i64 q] w fun e w' => e = .returned (.tuple #[.int .i64 (V), .int .i64 (E)]) ∧ Below w.heap.size w w' := by
  go_enter Tryd.func38, Tryd.ntmps38
  go_wp2_with (first
    | ((with_reducible refine at_binD 9 ?_); refine L_give (by rfl) (g_ilss 2 _ _ .i64 _ _ false rfl rfl (decide_eq_false h0) ?_))
    | ((with_reducible refine at_binD 12 ?_); refine L_give (by rfl) (g_ilss 2 _ _ .i64 _ _ false rfl rfl (decide_eq_false h1) ?_)))
  refine (rof_any n w hn).mono ?_
  rintro e w1 ⟨_, rfl, ⟨s_n16, v_n16, rfl, r_n16⟩, t_⟩
  have hB := t_
  clear t_
  go_wp2_with fail
  refine (rof_any q w1 hq).mono ?_
  rintro e w2 ⟨_, rfl, ⟨s_n18, v_n18, rfl, r_n18⟩, t_⟩
  replace r_n16 := r_n16.below t_
  replace hB := hB.trans (t_.mono hB.size)
  clear t_
  go_wp2_with fail
  refine (rtimes_any _ _ n q P w2 ⟨_, _, rfl, r_n16⟩ ⟨_, _, rfl, r_n18⟩ fn fq hP).mono ?_
  rintro e w3 ⟨_, rfl, ⟨s_n19, v_n19, rfl, r_n19⟩, t_⟩
  replace r_n16 := r_n16.below t_
  replace r_n18 := r_n18.below t_
  replace hB := hB.trans (t_.mono hB.size)
  clear t_
  go_wp2_with fail
  refine (rof_any 1000000000 w3 j9).mono ?_
  rintro e w4 ⟨_, rfl, ⟨s_n20, v_n20, rfl, r_n20⟩, t_⟩
  replace r_n16 := r_n16.below t_
  replace r_n18 := r_n18.below t_
  replace r_n19 := r_n19.below t_
  replace hB := hB.trans (t_.mono hB.size)
  clear t_
  go_wp2_with fail
  refine (rdiv_any _ _ P 1000000000 w4 ⟨_, _, rfl, r_n19⟩ ⟨_, _, rfl, r_n20⟩ fP f9 (by omega)).mono ?_
  rintro e w5 ⟨_, _, rfl, ⟨s_n21a, v_n21a, rfl, r_n21a⟩, ⟨s_n21b, v_n21b, rfl, r_n21b⟩, t_⟩
  replace r_n16 := r_n16.below t_
  replace r_n18 := r_n18.below t_
  replace r_n19 := r_n19.below t_
  replace r_n20 := r_n20.below t_
  replace hB := hB.trans (t_.mono hB.size)
  clear t_
  go_wp2_with (first
    | ((with_reducible refine at_allocD 6 72 ?_); refine L_alloc 72 ([.bool false, .slice none 0 0]) zeroR ?_; intro w6 t_ b_q; have l_q : w.heap.size ≤ w5.heap.size := hB.size; replace r_n16 := r_n16.below t_.toBelow; replace r_n18 := r_n18.below t_.toBelow; replace r_n19 := r_n19.below t_.toBelow; replace r_n20 := r_n20.below t_.toBelow; replace r_n21a := r_n21a.below t_.toBelow; replace r_n21b := r_n21b.below t_.toBelow; replace hB := t_.below hB l_q; clear t_)
    | ((with_reducible refine at_allocD 7 72 ?_); refine L_alloc 72 ([.bool false, .slice none 0 0]) zeroR ?_; intro w7 t_ b_m; have l_m : w.heap.size ≤ w6.heap.size := hB.size; have o_m := b_q.lt; replace r_n16 := r_n16.below t_.toBelow; replace r_n18 := r_n18.below t_.toBelow; replace r_n19 := r_n19.below t_.toBelow; replace r_n20 := r_n20.below t_.toBelow; replace r_n21a := r_n21a.below t_.toBelow; replace r_n21b := r_n21b.below t_.toBelow; replace b_q := t_.blk b_q (by omega); replace hB := t_.below hB l_m; clear t_)
    | ((with_reducible refine at_storeX 6 72 ?_); refine L_store_all 72 _ _ (w5.heap.size) ([.bool s_n21a, v_n21a]) _ 72 rfl rfl b_q (szR) (rfl) (one_rc _ _ r_n21a.sl) ?_; have b0_q := b_q; clear b_q; intro w8 t_ b_q; replace r_n16 := r_n16.turn t_ b0_q (by decide); replace r_n18 := r_n18.turn t_ b0_q (by decide); replace r_n19 := r_n19.turn t_ b0_q (by decide); replace r_n20 := r_n20.turn t_ b0_q (by decide); replace r_n21a := r_n21a.turn t_ b0_q (by decide); replace r_n21b := r_n21b.turn t_ b0_q (by decide); replace b_m := t_.blk b_m (by omega); replace hB := t_.below hB l_q; clear t_ b0_q)
    | ((with_reducible refine at_storeX 7 72 ?_); refine L_store_all 72 _ _ (w6.heap.size) ([.bool s_n21b, v_n21b]) _ 72 rfl rfl b_m (szR) (rfl) (one_rc _ _ r_n21b.sl) ?_; have b0_m := b_m; clear b_m; intro w9 t_ b_m; replace r_n16 := r_n16.turn t_ b0_m (by decide); replace r_n18 := r_n18.turn t_ b0_m (by decide); replace r_n19 := r_n19.turn t_ b0_m (by decide); replace r_n20 := r_n20.turn t_ b0_m (by decide); replace r_n21a := r_n21a.turn t_ b0_m (by decide); replace r_n21b := r_n21b.turn t_ b0_m (by decide); replace b_q := t_.blk b_q (by omega); replace hB := t_.below hB l_m; clear t_ b0_m)
    | ((with_reducible refine stop_list 24 ?_); intro X0 hX0))
  refine hX0.out ?_
  clear hX0
  obtain ⟨l, rdx, hcl, hvl⟩ := r_n21b.list
  obtain ⟨g_, cap_, sp_, en, -⟩ := rdx
  have hlen : (0 : Int) < (l.length : Nat) := by
    cases l with
    | nil => rw [val_nil] at hvl; exact absurd hvl (by omega)
    | cons b t => simp only [List.length_cons]; omega
  clear hcl hvl
  go_wp2_with (first
    | ((with_reducible refine at_loadD 25 70 ?_); refine L_give (by rfl) (g_cell70 _ (w6.heap.size) 1 ([.bool s_n21b, v_n21b]) 72 (v_n21b) rfl b_m (rfl) ?_))
    | ((with_reducible refine at_callDG 26 ?_); refine L_give (by rfl) (g_len _ _ _ _ en ?_))
    | ((with_reducible refine at_binD 27 ?_); refine L_give (by rfl) (g_igtr 3 _ _ .i64 _ _ true rfl rfl (decide_eq_true hlen) ?_))
    | ((with_reducible refine stop_region 5 ?_); intro X1 hX1))
  refine hX1.out ?_
  clear hX1
  have hB0 : w.heap.size ≤ w9.heap.size := hB.size
  have lt_q := b_q.lt
  have lt_m := b_m.lt
  refine wp_region_inv (by kernel_rfl) (by kernel_rfl) (fun t v wx => Below w.heap.size w9 wx ∧ Blk wx (w6.heap.size) ([.bool s_n21b, v_n21b]) 72 ∧ (RF wx s_n16 v_n16 (n)) ∧ (RF wx s_n18 v_n18 (q)) ∧ (RF wx s_n19 v_n19 (P)) ∧ (RF wx s_n20 v_n20 (1000000000)) ∧ (RF wx s_n21a v_n21a (P / 1000000000)) ∧ (RF wx s_n21b v_n21b (P % 1000000000)) ∧ (t 0 = true → v 0 = .agg #[.bool s_n21a, v_n21a]) ∧ (t 1 = true → RN wx (v 1) (1)) ∧ (t 2 = true → RN wx (v 2) (Z)) ∧ ((t 3 = false → Blk wx (w5.heap.size) ([.bool s_n21a, v_n21a]) 72) ∧ (t 3 = true → RA wx (w5.heap.size) (Z))) ∧ (t 3 = true → t 0 = true)) ?_ ?_ ?_
  · exact ⟨(Below.refl _ _).drew, b_m.drew, r_n16.below (Below.refl _ _).drew, r_n18.below (Below.refl _ _).drew, r_n19.below (Below.refl _ _).drew, r_n20.below (Below.refl _ _).drew, r_n21a.below (Below.refl _ _).drew, r_n21b.below (Below.refl _ _).drew, (fun h => by cases h), (fun h => by cases h), (fun h => by cases h), ⟨fun _ => b_q.drew, (fun h => by cases h)⟩, (fun h => by cases h)⟩
  · simp only [full, Act.put, List.setIfInBounds_toArray, List.set_cons_succ, List.set_cons_zero, Nat.zero_add, Nat.reduceAdd]
    intro i o ho t v wx hS hti hall
    obtain ⟨hC, q_m, g_r_n16, g_r_n18, g_r_n19, g_r_n20, g_r_n21a, g_r_n21b, k0, k1, k2, k3, m3_0⟩ := hS
    have hnw : w.heap.size ≤ wx.heap.size := Nat.le_trans hB0 hC.size
    rcases i with _ | _ | _ | _ | i
    · obtain rfl := Option.some.inj ho
      have hz : t 3 = false := by
        cases h : t 3 with
        | false => rfl
        | true => rw [m3_0 h] at hti; cases hti
      refine g_load_all 72 _ (w5.heap.size) ([.bool s_n21a, v_n21a]) 72 _ rfl (k3.1 hz) Tryd.underlying72 rfl (szR) ?_
      exact ⟨hC, q_m, g_r_n16, g_r_n18, g_r_n19, g_r_n20, g_r_n21a, g_r_n21b, newE rfl, (fun h => by rw [setB_other _ _ _ (by decide)] at h; rw [setV_other _ _ _ _ (by decide)]; exact k1 h), (fun h => by rw [setB_other _ _ _ (by decide)] at h; rw [setV_other _ _ _ _ (by decide)]; exact k2 h), ⟨fun h => by rw [setB_other _ _ _ (by decide)] at h; exact k3.1 h, fun h => by rw [setB_other _ _ _ (by decide)] at h; exact k3.2 h⟩, (fun _ => setB_self _ _)⟩
    · obtain rfl := Option.some.inj ho
      refine g_call 36 _ _ [.int .i64 (1)] (kf36 _ _) (rfl) ((rof_any 1 wx j1).mono ?_)
      rintro e w' ⟨u_, rfl, hp, hb⟩
      exact ⟨_, rfl, hC.trans (hb.mono hnw), q_m.below hb q_m.lt, g_r_n16.below hb, g_r_n18.below hb, g_r_n19.below hb, g_r_n20.below hb, g_r_n21a.below hb, g_r_n21b.below hb, keepE (by decide) k0, (fun _ => by rw [setV_self]; exact hp), (fun h => by rw [setB_other _ _ _ (by decide)] at h; rw [setV_other _ _ _ _ (by decide)]; exact (k2 h).below hb), ⟨fun h => by rw [setB_other _ _ _ (by decide)] at h; exact (k3.1 h).below hb (k3.1 h).lt, fun h => by rw [setB_other _ _ _ (by decide)] at h; exact (k3.2 h).below hb⟩, (fun h => by rw [setB_other _ _ _ (by decide)] at h ⊢; exact m3_0 h)⟩
    · obtain rfl := Option.some.inj ho
      have d0 := k0 (hall ⟨0, .data⟩ (by simp) rfl)
      have d1 := k1 (hall ⟨1, .data⟩ (by simp) rfl)
      refine g_call 33 _ _ [.agg #[.bool s_n21a, v_n21a], v 1] (kf33 _ _) (by show ([v 0, v 1] : List Value) = _; rw [d0]; (try rfl)) ((radd_any _ _ (P / 1000000000) 1 Z wx ⟨_, _, rfl, g_r_n21a⟩ d1 fQ f1 hZ).mono ?_)
      rintro e w' ⟨u_, rfl, hp, hb⟩
      exact ⟨_, rfl, hC.trans (hb.mono hnw), q_m.below hb q_m.lt, g_r_n16.below hb, g_r_n18.below hb, g_r_n19.below hb, g_r_n20.below hb, g_r_n21a.below hb, g_r_n21b.below hb, keepE (by decide) k0, (fun h => by rw [setB_other _ _ _ (by decide)] at h; rw [setV_other _ _ _ _ (by decide)]; exact (k1 h).below hb), (fun _ => by rw [setV_self]; exact hp), ⟨fun h => by rw [setB_other _ _ _ (by decide)] at h; exact (k3.1 h).below hb (k3.1 h).lt, fun h => by rw [setB_other _ _ _ (by decide)] at h; exact (k3.2 h).below hb⟩, (fun h => by rw [setB_other _ _ _ (by decide)] at h ⊢; exact m3_0 h)⟩
    · obtain rfl := Option.some.inj ho
      have hold := k3.1 hti
      have hlo := l_q
      obtain ⟨s8, b8, e8, r8⟩ := k2 (hall ⟨2, .data⟩ (by simp) rfl)
      refine g_store_all 72 _ _ (w5.heap.size) [.bool s8, b8] _ 72 rfl (show v 2 = _ from e8) hold szR rfl (one_rc _ _ r8.sl) (fun w' h1 h2 => ?_)
      exact ⟨h1.below hC hlo, h1.blk q_m (by omega), g_r_n16.turn h1 hold (by decide), g_r_n18.turn h1 hold (by decide), g_r_n19.turn h1 hold (by decide), g_r_n20.turn h1 hold (by decide), g_r_n21a.turn h1 hold (by decide), g_r_n21b.turn h1 hold (by decide), keepE (by decide) k0, (fun h => by rw [setB_other _ _ _ (by decide)] at h; rw [setV_other _ _ _ _ (by decide)]; exact (k1 h).turn h1 hold (by decide)), (fun h => by rw [setB_other _ _ _ (by decide)] at h; rw [setV_other _ _ _ _ (by decide)]; exact (k2 h).turn h1 hold (by decide)), ⟨(fun h => by have := setB_self t 3; rw [h] at this; cases this), fun _ => ⟨_, _, h2, r8.turn h1 hold (by decide)⟩⟩, (fun _ => by rw [setB_other _ _ _ (by decide)]; exact hall ⟨0, .phase⟩ (by simp) rfl)⟩
    · simp at ho
  · simp only [full, Act.put, List.setIfInBounds_toArray, List.set_cons_succ, List.set_cons_zero, Nat.zero_add, Nat.reduceAdd]
    intro t v w10 hS ht
    obtain ⟨hC, q_m, g_r_n16, g_r_n18, g_r_n19, g_r_n20, g_r_n21a, g_r_n21b, k0, k1, k2, k3, m3_0⟩ := hS
    obtain ⟨s_q1, v_q1, h_q, r_q1⟩ := k3.2 (ht 3 (by decide))
    have d0 := k0 (ht 0 (by decide)); (try rw [d0])
    clear d0
    clear ht k0 k1 k2 k3 m3_0 lt_q lt_m
    generalize v 1 = y1_1
    generalize v 2 = y1_2
    generalize v 3 = y1_3
    replace b_m := q_m
    clear q_m
    replace r_n16 := g_r_n16
    clear g_r_n16
    replace r_n18 := g_r_n18
    clear g_r_n18
    replace r_n19 := g_r_n19
    clear g_r_n19
    replace r_n20 := g_r_n20
    clear g_r_n20
    replace r_n21a := g_r_n21a
    clear g_r_n21a
    replace r_n21b := g_r_n21b
    clear g_r_n21b
    replace b_q := h_q
    clear h_q
    replace hB := hB.trans hC
    clear hC hB0
    go_wp2_with (first
      | ((with_reducible refine at_loadD 31 72 ?_); refine L_load_all 72 _ (w5.heap.size) ([.bool s_q1, v_q1]) 72 _ rfl b_q Tryd.underlying72 rfl (szR) ?_))
    refine (rwhole_any _ Z V E w10 ⟨_, _, rfl, r_q1⟩ fZ hV).mono ?_
    rintro e w11 ⟨rfl, t_⟩
    replace r_n16 := r_n16.below t_
    replace r_n18 := r_n18.below t_
    replace r_n19 := r_n19.below t_
    replace r_n20 := r_n20.below t_
    replace r_n21a := r_n21a.below t_
    replace r_n21b := r_n21b.below t_
    replace r_q1 := r_q1.below t_
    replace b_q := b_q.below t_ b_q.lt
    replace b_m := b_m.below t_ b_m.lt
    replace hB := hB.trans (t_.mono hB.size)
    clear t_
    go_wp2_with fail
    go_ret2
    exact ⟨rfl, hB⟩

theorem rgrown_any (n q V E : Int) (w : World) (hn : In64 n) (hq : In64 q) (h : Hid (grw n q = (V, E))) :
    Calls Tryd.prog 38 #[.int .i64 n, .int .i64 q] w fun e w' => e = .returned (.tuple #[.int .i64 V, .int .i64 E]) ∧ Below w.heap.size w w' := by
  have h := h.out
  unfold grw at h
  split at h
  · rename_i h0
    cases h
    by_cases h1 : n < 0
    · exact rgrown_a n q w h1
    · exact rgrown_b n q w h1 (by omega)
  · rename_i h0
    have hb := prod_bound n q hn hq
    have j9 : In64 1000000000 := by unfold In64; omega
    have fP : Few (n * q) 200 := few128 _ (by omega)
    have fQ : Few (n * q / 1000000000) 200 := few128 _ (by omega)
    by_cases hm : (n * q % 1000000000).natAbs = 0
    · rw [show (n * q + 999999999) / 1000000000 = n * q / 1000000000 by omega] at h
      exact rgrown_even n q _ V E w (by omega) (by omega) hn hq rfl hm j9 (few64 n hn) (few64 q hq) fP (few64 _ j9) fQ h
    · rw [show (n * q + 999999999) / 1000000000 = n * q / 1000000000 + 1 by omega] at h
      exact rgrown_more n q _ _ V E w (by omega) (by omega) hn hq rfl hm j9 (few64 n hn) (few64 q hq) fP (few64 _ j9) fQ (by unfold In64; omega) (few128 _ (by omega)) rfl (few128 _ (by omega)) h

end Go.Proofs.YtpenicjlpiechaaDoor.Wd
