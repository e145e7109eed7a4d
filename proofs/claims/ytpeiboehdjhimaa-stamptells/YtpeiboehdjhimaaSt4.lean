/- What the program's stamp.Near answers; nothing that was there is changed. -/
import Derived.Test.YtpeiboehdjhimaaSt3
namespace Go.Proofs.Ytpeiboehdjhimaa
open Go Go.RowKit
set_option linter.unusedVariables false

set_option maxRecDepth 10000 in
set_option maxHeartbeats 4000000 in
theorem near_lt_ok (s p L a b R z n : Int) (w : World) (hp : In128 p) (hL : Hid (p % 18446744073709551616 = L)) (hA : IntKind.u64.wrap (s - L) = a) (ha : 0 ≤ a) (ha2 : a < 18446744073709551616) (hb : Hid (18446744073709551616 - a = b)) (hR : Hid (cmpI b a = R)) (hn : R < 0) (hz : Hid ((-1) * 18446744073709551616 + a = z)) (iz : In128 z) (hzn : Hid (p + z = n)) (hN : In128 n) :
    Calls Try.prog 12 #[.int .u64 s, .agg (nl p).toArray] w fun e w' => e = .returned (.tuple #[.agg (nl (n)).toArray, .int .i64 (0)]) ∧ Below w.heap.size w w' := by
  go_enter Try.func12, Try.ntmps12
  go_wp2_with (first
    | ((with_reducible refine at_boxD 3 25 ?_); refine L_box 25 _ (nl (p)) rfl ?_; intro w1 t_ b_p; have l_p : w.heap.size ≤ w.heap.size := Nat.le_refl _; have hB : Below w.heap.size w w1 := t_.below (Below.refl _ _) (Nat.le_refl _); clear t_)
    | ((with_reducible refine at_allocD 4 25 ?_); refine L_alloc 25 (nl (0)) zeroN ?_; intro w2 t_ b_r; have l_r : w.heap.size ≤ w1.heap.size := hB.size; have o_r := b_p.lt; replace b_p := t_.blk b_p (by omega); replace hB := t_.below hB l_r; clear t_)
    | ((with_reducible refine at_loadD 9 25 ?_); refine L_load_all 25 _ (w.heap.size) (nl (p)) 25 _ rfl b_p Try.underlying25 rfl (szN 0) ?_))
  refine (fold_any p L w2 hL.out).mono ?_
  rintro e w3 ⟨rfl, t_⟩
  replace b_p := b_p.below t_ b_p.lt
  replace b_r := b_r.below t_ b_r.lt
  replace hB := hB.trans (t_.mono hB.size)
  clear t_
  go_wp2_with (first
    | ((with_reducible refine at_allocD 6 63 ?_); refine L_alloc 63 (vl (0)) zeroV ?_; intro w4 t_ b_v; have l_v : w.heap.size ≤ w3.heap.size := hB.size; have o_v := b_r.lt; replace b_p := t_.blk b_p (by omega); replace b_r := t_.blk b_r (by omega); replace hB := t_.below hB l_v; clear t_)
    | ((with_reducible refine at_storeX 6 63 ?_); refine L_store_all 63 _ _ (w3.heap.size) (vl (a)) _ 63 rfl rfl b_v (szV 0) (rfl) (one_vl _) ?_; have b0_v := b_v; clear b_v; intro w5 t_ b_v; replace b_p := t_.blk b_p (by omega); replace b_r := t_.blk b_r (by omega); replace hB := t_.below hB l_v; clear t_ b0_v)
    | ((with_reducible refine at_buildD 13 ?_); refine L_give (by rfl) (g_bI _ _ rfl rfl ?_); intro w6 t_ b_sl; have l_sl : w.heap.size ≤ w5.heap.size := hB.size; have o_sl := b_v.lt; replace b_p := t_.blk b_p (by omega); replace b_r := t_.blk b_r (by omega); replace b_v := t_.blk b_v (by omega); replace hB := t_.below hB l_sl; clear t_)
    | ((with_reducible refine at_loadD 14 63 ?_); refine L_load_all 63 _ (w3.heap.size) (vl (a)) 63 _ rfl b_v Try.underlying63 rfl (szV 0) ?_))
  refine (min_lt a b R w6 (w5.heap.size) b_sl ha ha2 hb hR (by omega)).mono ?_
  rintro e w7 ⟨rfl, t_⟩
  replace b_p := b_p.below t_ b_p.lt
  replace b_r := b_r.below t_ b_r.lt
  replace b_v := b_v.below t_ b_v.lt
  replace b_sl := b_sl.below t_ b_sl.lt
  replace hB := hB.trans (t_.mono hB.size)
  clear t_
  go_wp2_with (first
    | ((with_reducible refine stop_region 3 ?_); intro X1 hX1))
  refine hX1.out ?_
  clear hX1
  have hB0 := hB.size
  refine wp_region_inv (by kernel_rfl) (by kernel_rfl) (fun t v wx => Below (w.heap.size) w7 wx ∧ w7.heap.size ≤ wx.heap.size ∧ Blk wx (w.heap.size) (nl (p)) 25 ∧ Blk wx (w3.heap.size) (vl (a)) 63 ∧ Blk wx (w5.heap.size) ([.int .i64 0, .int .i64 (-1)]) 2 ∧ (t 0 = true → v 0 = .agg (nl (p)).toArray) ∧ (t 1 = true → v 1 = .agg (vl (a)).toArray) ∧ (t 2 = true → v 2 = .int .i64 (-1)) ∧ (t 3 = true → v 3 = .agg (nl (z)).toArray) ∧ (t 4 = true → v 4 = .tuple #[.agg (nl (n)).toArray, .int .i64 (0)]) ∧ (t 5 = true → v 5 = .agg (nl (n)).toArray) ∧ (t 6 = true → v 6 = .int .i64 (0)) ∧ ((t 7 = false → Blk wx (w1.heap.size) (nl (0)) 25) ∧ (t 7 = true → Blk wx (w1.heap.size) (nl (n)) 25) ∧ (t 7 = true → v 7 = undef)) ∧ (t 8 = true → v 8 = .int .i64 (0))) ?_ ?_ ?_
  · exact ⟨(Below.refl _ _).drew, Nat.le_refl _, b_p, b_v, b_sl, (fun h => by cases h), (fun h => by cases h), (fun h => by cases h), (fun h => by cases h), (fun h => by cases h), (fun h => by cases h), (fun h => by cases h), ⟨fun _ => b_r, (fun h => by cases h), (fun h => by cases h)⟩, (fun h => by cases h)⟩
  · simp only [full, Act.put, List.setIfInBounds_toArray, List.set_cons_succ, List.set_cons_zero, Nat.zero_add, Nat.reduceAdd]
    intro i o ho t v wx hS hti hall
    obtain ⟨hB8, hsz, q0, q1, q2, k0, k1, k2, k3, k4, k5, k6, k7, k8⟩ := hS
    have hnw : w.heap.size ≤ wx.heap.size := Nat.le_trans (by omega) hsz
    rcases i with _ | _ | _ | _ | _ | _ | _ | _ | _ | i
    · obtain rfl := Option.some.inj ho
      refine g_load_all 25 _ (w.heap.size) (nl (p)) 25 _ rfl q0 Try.underlying25 rfl (szN 0) ?_
      exact ⟨hB8, hsz, q0, q1, q2, newE rfl, keepE (by decide) k1, keepE (by decide) k2, keepE (by decide) k3, keepE (by decide) k4, keepE (by decide) k5, keepE (by decide) k6, k7, keepE (by decide) k8⟩
    · obtain rfl := Option.some.inj ho
      refine g_load_all 63 _ (w3.heap.size) (vl (a)) 63 _ rfl q1 Try.underlying63 rfl (szV 0) ?_
      exact ⟨hB8, hsz, q0, q1, q2, keepE (by decide) k0, newE rfl, keepE (by decide) k2, keepE (by decide) k3, keepE (by decide) k4, keepE (by decide) k5, keepE (by decide) k6, k7, keepE (by decide) k8⟩
    · obtain rfl := Option.some.inj ho
      refine g_move _ _ rfl ?_
      exact ⟨hB8, hsz, q0, q1, q2, keepE (by decide) k0, keepE (by decide) k1, newE rfl, keepE (by decide) k3, keepE (by decide) k4, keepE (by decide) k5, keepE (by decide) k6, k7, keepE (by decide) k8⟩
    · obtain rfl := Option.some.inj ho
      have d1 := k1 (hall ⟨1, .data⟩ (by simp) rfl)
      have d2 := k2 (hall ⟨2, .data⟩ (by simp) rfl)
      refine g_call 35 _ _ [.agg (vl (a)).toArray, .int .i64 (-1)] (kf35 _ _) (by show ([v 1, v 2] : List Value) = _; rw [d1, d2]; (try rfl)) ((way_any a (-1) z wx ha ha2 hz).mono ?_)
      rintro e w' ⟨rfl, hb⟩
      exact ⟨_, rfl, hB8.trans (hb.mono hnw), Nat.le_trans hsz hb.size, q0.below hb q0.lt, q1.below hb q1.lt, q2.below hb q2.lt, keepE (by decide) k0, keepE (by decide) k1, keepE (by decide) k2, newE rfl, keepE (by decide) k4, keepE (by decide) k5, keepE (by decide) k6, ⟨fun h7 => (k7.1 h7).below hb (k7.1 h7).lt, fun h7 => (k7.2.1 h7).below hb (k7.2.1 h7).lt, k7.2.2⟩, keepE (by decide) k8⟩
    · obtain rfl := Option.some.inj ho
      have d0 := k0 (hall ⟨0, .data⟩ (by simp) rfl)
      have d3 := k3 (hall ⟨3, .data⟩ (by simp) rfl)
      refine g_call 30 _ _ [.agg (nl (p)).toArray, .agg (nl (z)).toArray] (kf30 _ _) (by show ([v 0, v 3] : List Value) = _; rw [d0, d3]; (try rfl)) ((add_l p z n wx hp iz hN hzn).mono ?_)
      rintro e w' ⟨rfl, hb⟩
      exact ⟨_, rfl, hB8.trans (hb.mono hnw), Nat.le_trans hsz hb.size, q0.below hb q0.lt, q1.below hb q1.lt, q2.below hb q2.lt, keepE (by decide) k0, keepE (by decide) k1, keepE (by decide) k2, keepE (by decide) k3, newE rfl, keepE (by decide) k5, keepE (by decide) k6, ⟨fun h7 => (k7.1 h7).below hb (k7.1 h7).lt, fun h7 => (k7.2.1 h7).below hb (k7.2.1 h7).lt, k7.2.2⟩, keepE (by decide) k8⟩
    · obtain rfl := Option.some.inj ho
      have d4 := k4 (hall ⟨4, .data⟩ (by simp) rfl)
      refine g_extract _ _ 0 _ (show v 4 = _ from d4) rfl ?_
      exact ⟨hB8, hsz, q0, q1, q2, keepE (by decide) k0, keepE (by decide) k1, keepE (by decide) k2, keepE (by decide) k3, keepE (by decide) k4, newE rfl, keepE (by decide) k6, k7, keepE (by decide) k8⟩
    · obtain rfl := Option.some.inj ho
      have d4 := k4 (hall ⟨4, .data⟩ (by simp) rfl)
      refine g_extract _ _ 1 _ (show v 4 = _ from d4) rfl ?_
      exact ⟨hB8, hsz, q0, q1, q2, keepE (by decide) k0, keepE (by decide) k1, keepE (by decide) k2, keepE (by decide) k3, keepE (by decide) k4, keepE (by decide) k5, newE rfl, k7, keepE (by decide) k8⟩
    · obtain rfl := Option.some.inj ho
      have d5 := k5 (hall ⟨5, .data⟩ (by simp) rfl)
      refine g_store_all 25 _ _ (w1.heap.size) (nl (n)) _ 25 rfl (show v 5 = _ from d5) (k7.1 hti) (szN 0) rfl (one_nl _) (fun w' h1 h2 => ?_)
      exact ⟨h1.below hB8 (by omega), Nat.le_trans hsz h1.size, h1.blk q0 (by omega), h1.blk q1 (by omega), h1.blk q2 (by omega), keepE (by decide) k0, keepE (by decide) k1, keepE (by decide) k2, keepE (by decide) k3, keepE (by decide) k4, keepE (by decide) k5, keepE (by decide) k6, ⟨(fun h7 => by have h8 := setB_self t 7; rw [h7] at h8; cases h8), fun _ => h2, newE rfl⟩, keepE (by decide) k8⟩
    · obtain rfl := Option.some.inj ho
      have d6 := k6 (hall ⟨6, .data⟩ (by simp) rfl)
      refine g_assign _ _ (show v 6 = _ from d6) ?_
      exact ⟨hB8, hsz, q0, q1, q2, keepE (by decide) k0, keepE (by decide) k1, keepE (by decide) k2, keepE (by decide) k3, keepE (by decide) k4, keepE (by decide) k5, keepE (by decide) k6, k7, newE rfl⟩
    · simp at ho
  · simp only [full, Act.put, List.setIfInBounds_toArray, List.set_cons_succ, List.set_cons_zero, Nat.zero_add, Nat.reduceAdd]
    intro t v w8 hS ht
    obtain ⟨hB8, hsz, q0, q1, q2, k0, k1, k2, k3, k4, k5, k6, k7, k8⟩ := hS
    have f7 := k7.2.1 (ht 7 (by decide))
    have d0 := k0 (ht 0 (by decide)); (try rw [d0])
    have d1 := k1 (ht 1 (by decide)); (try rw [d1])
    have d2 := k2 (ht 2 (by decide)); (try rw [d2])
    have d3 := k3 (ht 3 (by decide)); (try rw [d3])
    have d4 := k4 (ht 4 (by decide)); (try rw [d4])
    have d5 := k5 (ht 5 (by decide)); (try rw [d5])
    have d6 := k6 (ht 6 (by decide)); (try rw [d6])
    have d8 := k8 (ht 8 (by decide)); (try rw [d8])
    clear d0 d1 d2 d3 d4 d5 d6 d8
    clear ht k0 k1 k2 k3 k4 k5 k6 k7 k8  
    generalize v 7 = x7
    replace b_p := q0
    clear q0
    replace b_v := q1
    clear q1
    replace b_sl := q2
    clear q2
    replace b_r := f7
    clear f7
    replace hB := hB.trans hB8
    clear hB8 hsz hB0
    go_wp2_with fail
    exact bodyPost_ret (results_blk_tmp rfl _ (nl (n)) (.int .i64 0) _ rfl rfl b_r Try.underlying25 rfl (szN 0)) rfl ⟨rfl, hB⟩

set_option maxRecDepth 10000 in
set_option maxHeartbeats 4000000 in
theorem near_lt_over (s p L a b R z : Int) (w : World) (hp : In128 p) (hL : Hid (p % 18446744073709551616 = L)) (hA : IntKind.u64.wrap (s - L) = a) (ha : 0 ≤ a) (ha2 : a < 18446744073709551616) (hb : Hid (18446744073709551616 - a = b)) (hR : Hid (cmpI b a = R)) (hn : R < 0) (hz : Hid ((-1) * 18446744073709551616 + a = z)) (iz : In128 z) (hN : ¬ In128 (p + z)) :
    Calls Try.prog 12 #[.int .u64 s, .agg (nl p).toArray] w fun e w' => e = .returned (.tuple #[.agg (nl (0)).toArray, .int .i64 (6)]) ∧ Below w.heap.size w w' := by
  go_enter Try.func12, Try.ntmps12
  go_wp2_with (first
    | ((with_reducible refine at_boxD 3 25 ?_); refine L_box 25 _ (nl (p)) rfl ?_; intro w1 t_ b_p; have l_p : w.heap.size ≤ w.heap.size := Nat.le_refl _; have hB : Below w.heap.size w w1 := t_.below (Below.refl _ _) (Nat.le_refl _); clear t_)
    | ((with_reducible refine at_allocD 4 25 ?_); refine L_alloc 25 (nl (0)) zeroN ?_; intro w2 t_ b_r; have l_r : w.heap.size ≤ w1.heap.size := hB.size; have o_r := b_p.lt; replace b_p := t_.blk b_p (by omega); replace hB := t_.below hB l_r; clear t_)
    | ((with_reducible refine at_loadD 9 25 ?_); refine L_load_all 25 _ (w.heap.size) (nl (p)) 25 _ rfl b_p Try.underlying25 rfl (szN 0) ?_))
  refine (fold_any p L w2 hL.out).mono ?_
  rintro e w3 ⟨rfl, t_⟩
  replace b_p := b_p.below t_ b_p.lt
  replace b_r := b_r.below t_ b_r.lt
  replace hB := hB.trans (t_.mono hB.size)
  clear t_
  go_wp2_with (first
    | ((with_reducible refine at_allocD 6 63 ?_); refine L_alloc 63 (vl (0)) zeroV ?_; intro w4 t_ b_v; have l_v : w.heap.size ≤ w3.heap.size := hB.size; have o_v := b_r.lt; replace b_p := t_.blk b_p (by omega); replace b_r := t_.blk b_r (by omega); replace hB := t_.below hB l_v; clear t_)
    | ((with_reducible refine at_storeX 6 63 ?_); refine L_store_all 63 _ _ (w3.heap.size) (vl (a)) _ 63 rfl rfl b_v (szV 0) (rfl) (one_vl _) ?_; have b0_v := b_v; clear b_v; intro w5 t_ b_v; replace b_p := t_.blk b_p (by omega); replace b_r := t_.blk b_r (by omega); replace hB := t_.below hB l_v; clear t_ b0_v)
    | ((with_reducible refine at_buildD 13 ?_); refine L_give (by rfl) (g_bI _ _ rfl rfl ?_); intro w6 t_ b_sl; have l_sl : w.heap.size ≤ w5.heap.size := hB.size; have o_sl := b_v.lt; replace b_p := t_.blk b_p (by omega); replace b_r := t_.blk b_r (by omega); replace b_v := t_.blk b_v (by omega); replace hB := t_.below hB l_sl; clear t_)
    | ((with_reducible refine at_loadD 14 63 ?_); refine L_load_all 63 _ (w3.heap.size) (vl (a)) 63 _ rfl b_v Try.underlying63 rfl (szV 0) ?_))
  refine (min_lt a b R w6 (w5.heap.size) b_sl ha ha2 hb hR (by omega)).mono ?_
  rintro e w7 ⟨rfl, t_⟩
  replace b_p := b_p.below t_ b_p.lt
  replace b_r := b_r.below t_ b_r.lt
  replace b_v := b_v.below t_ b_v.lt
  replace b_sl := b_sl.below t_ b_sl.lt
  replace hB := hB.trans (t_.mono hB.size)
  clear t_
  go_wp2_with (first
    | ((with_reducible refine stop_region 3 ?_); intro X1 hX1))
  refine hX1.out ?_
  clear hX1
  have hB0 := hB.size
  refine wp_region_inv (by kernel_rfl) (by kernel_rfl) (fun t v wx => Below (w.heap.size) w7 wx ∧ w7.heap.size ≤ wx.heap.size ∧ Blk wx (w.heap.size) (nl (p)) 25 ∧ Blk wx (w3.heap.size) (vl (a)) 63 ∧ Blk wx (w5.heap.size) ([.int .i64 0, .int .i64 (-1)]) 2 ∧ (t 0 = true → v 0 = .agg (nl (p)).toArray) ∧ (t 1 = true → v 1 = .agg (vl (a)).toArray) ∧ (t 2 = true → v 2 = .int .i64 (-1)) ∧ (t 3 = true → v 3 = .agg (nl (z)).toArray) ∧ (t 4 = true → v 4 = .tuple #[.agg (nl (0)).toArray, .int .i64 (6)]) ∧ (t 5 = true → v 5 = .agg (nl (0)).toArray) ∧ (t 6 = true → v 6 = .int .i64 (6)) ∧ ((t 7 = false → Blk wx (w1.heap.size) (nl (0)) 25) ∧ (t 7 = true → Blk wx (w1.heap.size) (nl (0)) 25) ∧ (t 7 = true → v 7 = undef)) ∧ (t 8 = true → v 8 = .int .i64 (6))) ?_ ?_ ?_
  · exact ⟨(Below.refl _ _).drew, Nat.le_refl _, b_p, b_v, b_sl, (fun h => by cases h), (fun h => by cases h), (fun h => by cases h), (fun h => by cases h), (fun h => by cases h), (fun h => by cases h), (fun h => by cases h), ⟨fun _ => b_r, (fun h => by cases h), (fun h => by cases h)⟩, (fun h => by cases h)⟩
  · simp only [full, Act.put, List.setIfInBounds_toArray, List.set_cons_succ, List.set_cons_zero, Nat.zero_add, Nat.reduceAdd]
    intro i o ho t v wx hS hti hall
    obtain ⟨hB8, hsz, q0, q1, q2, k0, k1, k2, k3, k4, k5, k6, k7, k8⟩ := hS
    have hnw : w.heap.size ≤ wx.heap.size := Nat.le_trans (by omega) hsz
    rcases i with _ | _ | _ | _ | _ | _ | _ | _ | _ | i
    · obtain rfl := Option.some.inj ho
      refine g_load_all 25 _ (w.heap.size) (nl (p)) 25 _ rfl q0 Try.underlying25 rfl (szN 0) ?_
      exact ⟨hB8, hsz, q0, q1, q2, newE rfl, keepE (by decide) k1, keepE (by decide) k2, keepE (by decide) k3, keepE (by decide) k4, keepE (by decide) k5, keepE (by decide) k6, k7, keepE (by decide) k8⟩
    · obtain rfl := Option.some.inj ho
      refine g_load_all 63 _ (w3.heap.size) (vl (a)) 63 _ rfl q1 Try.underlying63 rfl (szV 0) ?_
      exact ⟨hB8, hsz, q0, q1, q2, keepE (by decide) k0, newE rfl, keepE (by decide) k2, keepE (by decide) k3, keepE (by decide) k4, keepE (by decide) k5, keepE (by decide) k6, k7, keepE (by decide) k8⟩
    · obtain rfl := Option.some.inj ho
      refine g_move _ _ rfl ?_
      exact ⟨hB8, hsz, q0, q1, q2, keepE (by decide) k0, keepE (by decide) k1, newE rfl, keepE (by decide) k3, keepE (by decide) k4, keepE (by decide) k5, keepE (by decide) k6, k7, keepE (by decide) k8⟩
    · obtain rfl := Option.some.inj ho
      have d1 := k1 (hall ⟨1, .data⟩ (by simp) rfl)
      have d2 := k2 (hall ⟨2, .data⟩ (by simp) rfl)
      refine g_call 35 _ _ [.agg (vl (a)).toArray, .int .i64 (-1)] (kf35 _ _) (by show ([v 1, v 2] : List Value) = _; rw [d1, d2]; (try rfl)) ((way_any a (-1) z wx ha ha2 hz).mono ?_)
      rintro e w' ⟨rfl, hb⟩
      exact ⟨_, rfl, hB8.trans (hb.mono hnw), Nat.le_trans hsz hb.size, q0.below hb q0.lt, q1.below hb q1.lt, q2.below hb q2.lt, keepE (by decide) k0, keepE (by decide) k1, keepE (by decide) k2, newE rfl, keepE (by decide) k4, keepE (by decide) k5, keepE (by decide) k6, ⟨fun h7 => (k7.1 h7).below hb (k7.1 h7).lt, fun h7 => (k7.2.1 h7).below hb (k7.2.1 h7).lt, k7.2.2⟩, keepE (by decide) k8⟩
    · obtain rfl := Option.some.inj ho
      have d0 := k0 (hall ⟨0, .data⟩ (by simp) rfl)
      have d3 := k3 (hall ⟨3, .data⟩ (by simp) rfl)
      refine g_call 30 _ _ [.agg (nl (p)).toArray, .agg (nl (z)).toArray] (kf30 _ _) (by show ([v 0, v 3] : List Value) = _; rw [d0, d3]; (try rfl)) ((add_over p z wx hp iz hN).mono ?_)
      rintro e w' ⟨rfl, hb⟩
      exact ⟨_, rfl, hB8.trans (hb.mono hnw), Nat.le_trans hsz hb.size, q0.below hb q0.lt, q1.below hb q1.lt, q2.below hb q2.lt, keepE (by decide) k0, keepE (by decide) k1, keepE (by decide) k2, keepE (by decide) k3, newE rfl, keepE (by decide) k5, keepE (by decide) k6, ⟨fun h7 => (k7.1 h7).below hb (k7.1 h7).lt, fun h7 => (k7.2.1 h7).below hb (k7.2.1 h7).lt, k7.2.2⟩, keepE (by decide) k8⟩
    · obtain rfl := Option.some.inj ho
      have d4 := k4 (hall ⟨4, .data⟩ (by simp) rfl)
      refine g_extract _ _ 0 _ (show v 4 = _ from d4) rfl ?_
      exact ⟨hB8, hsz, q0, q1, q2, keepE (by decide) k0, keepE (by decide) k1, keepE (by decide) k2, keepE (by decide) k3, keepE (by decide) k4, newE rfl, keepE (by decide) k6, k7, keepE (by decide) k8⟩
    · obtain rfl := Option.some.inj ho
      have d4 := k4 (hall ⟨4, .data⟩ (by simp) rfl)
      refine g_extract _ _ 1 _ (show v 4 = _ from d4) rfl ?_
      exact ⟨hB8, hsz, q0, q1, q2, keepE (by decide) k0, keepE (by decide) k1, keepE (by decide) k2, keepE (by decide) k3, keepE (by decide) k4, keepE (by decide) k5, newE rfl, k7, keepE (by decide) k8⟩
    · obtain rfl := Option.some.inj ho
      have d5 := k5 (hall ⟨5, .data⟩ (by simp) rfl)
      refine g_store_all 25 _ _ (w1.heap.size) (nl (0)) _ 25 rfl (show v 5 = _ from d5) (k7.1 hti) (szN 0) rfl (one_nl _) (fun w' h1 h2 => ?_)
      exact ⟨h1.below hB8 (by omega), Nat.le_trans hsz h1.size, h1.blk q0 (by omega), h1.blk q1 (by omega), h1.blk q2 (by omega), keepE (by decide) k0, keepE (by decide) k1, keepE (by decide) k2, keepE (by decide) k3, keepE (by decide) k4, keepE (by decide) k5, keepE (by decide) k6, ⟨(fun h7 => by have h8 := setB_self t 7; rw [h7] at h8; cases h8), fun _ => h2, newE rfl⟩, keepE (by decide) k8⟩
    · obtain rfl := Option.some.inj ho
      have d6 := k6 (hall ⟨6, .data⟩ (by simp) rfl)
      refine g_assign _ _ (show v 6 = _ from d6) ?_
      exact ⟨hB8, hsz, q0, q1, q2, keepE (by decide) k0, keepE (by decide) k1, keepE (by decide) k2, keepE (by decide) k3, keepE (by decide) k4, keepE (by decide) k5, keepE (by decide) k6, k7, newE rfl⟩
    · simp at ho
  · simp only [full, Act.put, List.setIfInBounds_toArray, List.set_cons_succ, List.set_cons_zero, Nat.zero_add, Nat.reduceAdd]
    intro t v w8 hS ht
    obtain ⟨hB8, hsz, q0, q1, q2, k0, k1, k2, k3, k4, k5, k6, k7, k8⟩ := hS
    have f7 := k7.2.1 (ht 7 (by decide))
    have d0 := k0 (ht 0 (by decide)); (try rw [d0])
    have d1 := k1 (ht 1 (by decide)); (try rw [d1])
    have d2 := k2 (ht 2 (by decide)); (try rw [d2])
    have d3 := k3 (ht 3 (by decide)); (try rw [d3])
    have d4 := k4 (ht 4 (by decide)); (try rw [d4])
    have d5 := k5 (ht 5 (by decide)); (try rw [d5])
    have d6 := k6 (ht 6 (by decide)); (try rw [d6])
    have d8 := k8 (ht 8 (by decide)); (try rw [d8])
    clear d0 d1 d2 d3 d4 d5 d6 d8
    clear ht k0 k1 k2 k3 k4 k5 k6 k7 k8  
    generalize v 7 = x7
    replace b_p := q0
    clear q0
    replace b_v := q1
    clear q1
    replace b_sl := q2
    clear q2
    replace b_r := f7
    clear f7
    replace hB := hB.trans hB8
    clear hB8 hsz hB0
    go_wp2_with fail
    exact bodyPost_ret (results_blk_tmp rfl _ (nl (0)) (.int .i64 6) _ rfl rfl b_r Try.underlying25 rfl (szN 0)) rfl ⟨rfl, hB⟩

set_option maxRecDepth 10000 in
set_option maxHeartbeats 4000000 in
theorem near_ge_ok (s p L a b R z n : Int) (w : World) (hp : In128 p) (hL : Hid (p % 18446744073709551616 = L)) (hA : IntKind.u64.wrap (s - L) = a) (ha : 0 ≤ a) (ha2 : a < 18446744073709551616) (hb : Hid (18446744073709551616 - a = b)) (hR : Hid (cmpI b a = R)) (hn : ¬ R < 0) (hz : Hid (0 * 18446744073709551616 + a = z)) (iz : In128 z) (hzn : Hid (p + z = n)) (hN : In128 n) :
    Calls Try.prog 12 #[.int .u64 s, .agg (nl p).toArray] w fun e w' => e = .returned (.tuple #[.agg (nl (n)).toArray, .int .i64 (0)]) ∧ Below w.heap.size w w' := by
  go_enter Try.func12, Try.ntmps12
  go_wp2_with (first
    | ((with_reducible refine at_boxD 3 25 ?_); refine L_box 25 _ (nl (p)) rfl ?_; intro w1 t_ b_p; have l_p : w.heap.size ≤ w.heap.size := Nat.le_refl _; have hB : Below w.heap.size w w1 := t_.below (Below.refl _ _) (Nat.le_refl _); clear t_)
    | ((with_reducible refine at_allocD 4 25 ?_); refine L_alloc 25 (nl (0)) zeroN ?_; intro w2 t_ b_r; have l_r : w.heap.size ≤ w1.heap.size := hB.size; have o_r := b_p.lt; replace b_p := t_.blk b_p (by omega); replace hB := t_.below hB l_r; clear t_)
    | ((with_reducible refine at_loadD 9 25 ?_); refine L_load_all 25 _ (w.heap.size) (nl (p)) 25 _ rfl b_p Try.underlying25 rfl (szN 0) ?_))
  refine (fold_any p L w2 hL.out).mono ?_
  rintro e w3 ⟨rfl, t_⟩
  replace b_p := b_p.below t_ b_p.lt
  replace b_r := b_r.below t_ b_r.lt
  replace hB := hB.trans (t_.mono hB.size)
  clear t_
  go_wp2_with (first
    | ((with_reducible refine at_allocD 6 63 ?_); refine L_alloc 63 (vl (0)) zeroV ?_; intro w4 t_ b_v; have l_v : w.heap.size ≤ w3.heap.size := hB.size; have o_v := b_r.lt; replace b_p := t_.blk b_p (by omega); replace b_r := t_.blk b_r (by omega); replace hB := t_.below hB l_v; clear t_)
    | ((with_reducible refine at_storeX 6 63 ?_); refine L_store_all 63 _ _ (w3.heap.size) (vl (a)) _ 63 rfl rfl b_v (szV 0) (rfl) (one_vl _) ?_; have b0_v := b_v; clear b_v; intro w5 t_ b_v; replace b_p := t_.blk b_p (by omega); replace b_r := t_.blk b_r (by omega); replace hB := t_.below hB l_v; clear t_ b0_v)
    | ((with_reducible refine at_buildD 13 ?_); refine L_give (by rfl) (g_bI _ _ rfl rfl ?_); intro w6 t_ b_sl; have l_sl : w.heap.size ≤ w5.heap.size := hB.size; have o_sl := b_v.lt; replace b_p := t_.blk b_p (by omega); replace b_r := t_.blk b_r (by omega); replace b_v := t_.blk b_v (by omega); replace hB := t_.below hB l_sl; clear t_)
    | ((with_reducible refine at_loadD 14 63 ?_); refine L_load_all 63 _ (w3.heap.size) (vl (a)) 63 _ rfl b_v Try.underlying63 rfl (szV 0) ?_))
  refine (min_ge a b R w6 (w5.heap.size) b_sl ha ha2 hb hR (by omega)).mono ?_
  rintro e w7 ⟨rfl, t_⟩
  replace b_p := b_p.below t_ b_p.lt
  replace b_r := b_r.below t_ b_r.lt
  replace b_v := b_v.below t_ b_v.lt
  replace b_sl := b_sl.below t_ b_sl.lt
  replace hB := hB.trans (t_.mono hB.size)
  clear t_
  go_wp2_with (first
    | ((with_reducible refine stop_region 3 ?_); intro X1 hX1))
  refine hX1.out ?_
  clear hX1
  have hB0 := hB.size
  refine wp_region_inv (by kernel_rfl) (by kernel_rfl) (fun t v wx => Below (w.heap.size) w7 wx ∧ w7.heap.size ≤ wx.heap.size ∧ Blk wx (w.heap.size) (nl (p)) 25 ∧ Blk wx (w3.heap.size) (vl (a)) 63 ∧ Blk wx (w5.heap.size) ([.int .i64 0, .int .i64 (-1)]) 2 ∧ (t 0 = true → v 0 = .agg (nl (p)).toArray) ∧ (t 1 = true → v 1 = .agg (vl (a)).toArray) ∧ (t 2 = true → v 2 = .int .i64 (0)) ∧ (t 3 = true → v 3 = .agg (nl (z)).toArray) ∧ (t 4 = true → v 4 = .tuple #[.agg (nl (n)).toArray, .int .i64 (0)]) ∧ (t 5 = true → v 5 = .agg (nl (n)).toArray) ∧ (t 6 = true → v 6 = .int .i64 (0)) ∧ ((t 7 = false → Blk wx (w1.heap.size) (nl (0)) 25) ∧ (t 7 = true → Blk wx (w1.heap.size) (nl (n)) 25) ∧ (t 7 = true → v 7 = undef)) ∧ (t 8 = true → v 8 = .int .i64 (0))) ?_ ?_ ?_
  · exact ⟨(Below.refl _ _).drew, Nat.le_refl _, b_p, b_v, b_sl, (fun h => by cases h), (fun h => by cases h), (fun h => by cases h), (fun h => by cases h), (fun h => by cases h), (fun h => by cases h), (fun h => by cases h), ⟨fun _ => b_r, (fun h => by cases h), (fun h => by cases h)⟩, (fun h => by cases h)⟩
  · simp only [full, Act.put, List.setIfInBounds_toArray, List.set_cons_succ, List.set_cons_zero, Nat.zero_add, Nat.reduceAdd]
    intro i o ho t v wx hS hti hall
    obtain ⟨hB8, hsz, q0, q1, q2, k0, k1, k2, k3, k4, k5, k6, k7, k8⟩ := hS
    have hnw : w.heap.size ≤ wx.heap.size := Nat.le_trans (by omega) hsz
    rcases i with _ | _ | _ | _ | _ | _ | _ | _ | _ | i
    · obtain rfl := Option.some.inj ho
      refine g_load_all 25 _ (w.heap.size) (nl (p)) 25 _ rfl q0 Try.underlying25 rfl (szN 0) ?_
      exact ⟨hB8, hsz, q0, q1, q2, newE rfl, keepE (by decide) k1, keepE (by decide) k2, keepE (by decide) k3, keepE (by decide) k4, keepE (by decide) k5, keepE (by decide) k6, k7, keepE (by decide) k8⟩
    · obtain rfl := Option.some.inj ho
      refine g_load_all 63 _ (w3.heap.size) (vl (a)) 63 _ rfl q1 Try.underlying63 rfl (szV 0) ?_
      exact ⟨hB8, hsz, q0, q1, q2, keepE (by decide) k0, newE rfl, keepE (by decide) k2, keepE (by decide) k3, keepE (by decide) k4, keepE (by decide) k5, keepE (by decide) k6, k7, keepE (by decide) k8⟩
    · obtain rfl := Option.some.inj ho
      refine g_move _ _ rfl ?_
      exact ⟨hB8, hsz, q0, q1, q2, keepE (by decide) k0, keepE (by decide) k1, newE rfl, keepE (by decide) k3, keepE (by decide) k4, keepE (by decide) k5, keepE (by decide) k6, k7, keepE (by decide) k8⟩
    · obtain rfl := Option.some.inj ho
      have d1 := k1 (hall ⟨1, .data⟩ (by simp) rfl)
      have d2 := k2 (hall ⟨2, .data⟩ (by simp) rfl)
      refine g_call 35 _ _ [.agg (vl (a)).toArray, .int .i64 (0)] (kf35 _ _) (by show ([v 1, v 2] : List Value) = _; rw [d1, d2]; (try rfl)) ((way_any a 0 z wx ha ha2 hz).mono ?_)
      rintro e w' ⟨rfl, hb⟩
      exact ⟨_, rfl, hB8.trans (hb.mono hnw), Nat.le_trans hsz hb.size, q0.below hb q0.lt, q1.below hb q1.lt, q2.below hb q2.lt, keepE (by decide) k0, keepE (by decide) k1, keepE (by decide) k2, newE rfl, keepE (by decide) k4, keepE (by decide) k5, keepE (by decide) k6, ⟨fun h7 => (k7.1 h7).below hb (k7.1 h7).lt, fun h7 => (k7.2.1 h7).below hb (k7.2.1 h7).lt, k7.2.2⟩, keepE (by decide) k8⟩
    · obtain rfl := Option.some.inj ho
      have d0 := k0 (hall ⟨0, .data⟩ (by simp) rfl)
      have d3 := k3 (hall ⟨3, .data⟩ (by simp) rfl)
      refine g_call 30 _ _ [.agg (nl (p)).toArray, .agg (nl (z)).toArray] (kf30 _ _) (by show ([v 0, v 3] : List Value) = _; rw [d0, d3]; (try rfl)) ((add_l p z n wx hp iz hN hzn).mono ?_)
      rintro e w' ⟨rfl, hb⟩
      exact ⟨_, rfl, hB8.trans (hb.mono hnw), Nat.le_trans hsz hb.size, q0.below hb q0.lt, q1.below hb q1.lt, q2.below hb q2.lt, keepE (by decide) k0, keepE (by decide) k1, keepE (by decide) k2, keepE (by decide) k3, newE rfl, keepE (by decide) k5, keepE (by decide) k6, ⟨fun h7 => (k7.1 h7).below hb (k7.1 h7).lt, fun h7 => (k7.2.1 h7).below hb (k7.2.1 h7).lt, k7.2.2⟩, keepE (by decide) k8⟩
    · obtain rfl := Option.some.inj ho
      have d4 := k4 (hall ⟨4, .data⟩ (by simp) rfl)
      refine g_extract _ _ 0 _ (show v 4 = _ from d4) rfl ?_
      exact ⟨hB8, hsz, q0, q1, q2, keepE (by decide) k0, keepE (by decide) k1, keepE (by decide) k2, keepE (by decide) k3, keepE (by decide) k4, newE rfl, keepE (by decide) k6, k7, keepE (by decide) k8⟩
    · obtain rfl := Option.some.inj ho
      have d4 := k4 (hall ⟨4, .data⟩ (by simp) rfl)
      refine g_extract _ _ 1 _ (show v 4 = _ from d4) rfl ?_
      exact ⟨hB8, hsz, q0, q1, q2, keepE (by decide) k0, keepE (by decide) k1, keepE (by decide) k2, keepE (by decide) k3, keepE (by decide) k4, keepE (by decide) k5, newE rfl, k7, keepE (by decide) k8⟩
    · obtain rfl := Option.some.inj ho
      have d5 := k5 (hall ⟨5, .data⟩ (by simp) rfl)
      refine g_store_all 25 _ _ (w1.heap.size) (nl (n)) _ 25 rfl (show v 5 = _ from d5) (k7.1 hti) (szN 0) rfl (one_nl _) (fun w' h1 h2 => ?_)
      exact ⟨h1.below hB8 (by omega), Nat.le_trans hsz h1.size, h1.blk q0 (by omega), h1.blk q1 (by omega), h1.blk q2 (by omega), keepE (by decide) k0, keepE (by decide) k1, keepE (by decide) k2, keepE (by decide) k3, keepE (by decide) k4, keepE (by decide) k5, keepE (by decide) k6, ⟨(fun h7 => by have h8 := setB_self t 7; rw [h7] at h8; cases h8), fun _ => h2, newE rfl⟩, keepE (by decide) k8⟩
    · obtain rfl := Option.some.inj ho
      have d6 := k6 (hall ⟨6, .data⟩ (by simp) rfl)
      refine g_assign _ _ (show v 6 = _ from d6) ?_
      exact ⟨hB8, hsz, q0, q1, q2, keepE (by decide) k0, keepE (by decide) k1, keepE (by decide) k2, keepE (by decide) k3, keepE (by decide) k4, keepE (by decide) k5, keepE (by decide) k6, k7, newE rfl⟩
    · simp at ho
  · simp only [full, Act.put, List.setIfInBounds_toArray, List.set_cons_succ, List.set_cons_zero, Nat.zero_add, Nat.reduceAdd]
    intro t v w8 hS ht
    obtain ⟨hB8, hsz, q0, q1, q2, k0, k1, k2, k3, k4, k5, k6, k7, k8⟩ := hS
    have f7 := k7.2.1 (ht 7 (by decide))
    have d0 := k0 (ht 0 (by decide)); (try rw [d0])
    have d1 := k1 (ht 1 (by decide)); (try rw [d1])
    have d2 := k2 (ht 2 (by decide)); (try rw [d2])
    have d3 := k3 (ht 3 (by decide)); (try rw [d3])
    have d4 := k4 (ht 4 (by decide)); (try rw [d4])
    have d5 := k5 (ht 5 (by decide)); (try rw [d5])
    have d6 := k6 (ht 6 (by decide)); (try rw [d6])
    have d8 := k8 (ht 8 (by decide)); (try rw [d8])
    clear d0 d1 d2 d3 d4 d5 d6 d8
    clear ht k0 k1 k2 k3 k4 k5 k6 k7 k8  
    generalize v 7 = x7
    replace b_p := q0
    clear q0
    replace b_v := q1
    clear q1
    replace b_sl := q2
    clear q2
    replace b_r := f7
    clear f7
    replace hB := hB.trans hB8
    clear hB8 hsz hB0
    go_wp2_with fail
    exact bodyPost_ret (results_blk_tmp rfl _ (nl (n)) (.int .i64 0) _ rfl rfl b_r Try.underlying25 rfl (szN 0)) rfl ⟨rfl, hB⟩

set_option maxRecDepth 10000 in
set_option maxHeartbeats 4000000 in
theorem near_ge_over (s p L a b R z : Int) (w : World) (hp : In128 p) (hL : Hid (p % 18446744073709551616 = L)) (hA : IntKind.u64.wrap (s - L) = a) (ha : 0 ≤ a) (ha2 : a < 18446744073709551616) (hb : Hid (18446744073709551616 - a = b)) (hR : Hid (cmpI b a = R)) (hn : ¬ R < 0) (hz : Hid (0 * 18446744073709551616 + a = z)) (iz : In128 z) (hN : ¬ In128 (p + z)) :
    Calls Try.prog 12 #[.int .u64 s, .agg (nl p).toArray] w fun e w' => e = .returned (.tuple #[.agg (nl (0)).toArray, .int .i64 (6)]) ∧ Below w.heap.size w w' := by
  go_enter Try.func12, Try.ntmps12
  go_wp2_with (first
    | ((with_reducible refine at_boxD 3 25 ?_); refine L_box 25 _ (nl (p)) rfl ?_; intro w1 t_ b_p; have l_p : w.heap.size ≤ w.heap.size := Nat.le_refl _; have hB : Below w.heap.size w w1 := t_.below (Below.refl _ _) (Nat.le_refl _); clear t_)
    | ((with_reducible refine at_allocD 4 25 ?_); refine L_alloc 25 (nl (0)) zeroN ?_; intro w2 t_ b_r; have l_r : w.heap.size ≤ w1.heap.size := hB.size; have o_r := b_p.lt; replace b_p := t_.blk b_p (by omega); replace hB := t_.below hB l_r; clear t_)
    | ((with_reducible refine at_loadD 9 25 ?_); refine L_load_all 25 _ (w.heap.size) (nl (p)) 25 _ rfl b_p Try.underlying25 rfl (szN 0) ?_))
  refine (fold_any p L w2 hL.out).mono ?_
  rintro e w3 ⟨rfl, t_⟩
  replace b_p := b_p.below t_ b_p.lt
  replace b_r := b_r.below t_ b_r.lt
  replace hB := hB.trans (t_.mono hB.size)
  clear t_
  go_wp2_with (first
    | ((with_reducible refine at_allocD 6 63 ?_); refine L_alloc 63 (vl (0)) zeroV ?_; intro w4 t_ b_v; have l_v : w.heap.size ≤ w3.heap.size := hB.size; have o_v := b_r.lt; replace b_p := t_.blk b_p (by omega); replace b_r := t_.blk b_r (by omega); replace hB := t_.below hB l_v; clear t_)
    | ((with_reducible refine at_storeX 6 63 ?_); refine L_store_all 63 _ _ (w3.heap.size) (vl (a)) _ 63 rfl rfl b_v (szV 0) (rfl) (one_vl _) ?_; have b0_v := b_v; clear b_v; intro w5 t_ b_v; replace b_p := t_.blk b_p (by omega); replace b_r := t_.blk b_r (by omega); replace hB := t_.below hB l_v; clear t_ b0_v)
    | ((with_reducible refine at_buildD 13 ?_); refine L_give (by rfl) (g_bI _ _ rfl rfl ?_); intro w6 t_ b_sl; have l_sl : w.heap.size ≤ w5.heap.size := hB.size; have o_sl := b_v.lt; replace b_p := t_.blk b_p (by omega); replace b_r := t_.blk b_r (by omega); replace b_v := t_.blk b_v (by omega); replace hB := t_.below hB l_sl; clear t_)
    | ((with_reducible refine at_loadD 14 63 ?_); refine L_load_all 63 _ (w3.heap.size) (vl (a)) 63 _ rfl b_v Try.underlying63 rfl (szV 0) ?_))
  refine (min_ge a b R w6 (w5.heap.size) b_sl ha ha2 hb hR (by omega)).mono ?_
  rintro e w7 ⟨rfl, t_⟩
  replace b_p := b_p.below t_ b_p.lt
  replace b_r := b_r.below t_ b_r.lt
  replace b_v := b_v.below t_ b_v.lt
  replace b_sl := b_sl.below t_ b_sl.lt
  replace hB := hB.trans (t_.mono hB.size)
  clear t_
  go_wp2_with (first
    | ((with_reducible refine stop_region 3 ?_); intro X1 hX1))
  refine hX1.out ?_
  clear hX1
  have hB0 := hB.size
  refine wp_region_inv (by kernel_rfl) (by kernel_rfl) (fun t v wx => Below (w.heap.size) w7 wx ∧ w7.heap.size ≤ wx.heap.size ∧ Blk wx (w.heap.size) (nl (p)) 25 ∧ Blk wx (w3.heap.size) (vl (a)) 63 ∧ Blk wx (w5.heap.size) ([.int .i64 0, .int .i64 (-1)]) 2 ∧ (t 0 = true → v 0 = .agg (nl (p)).toArray) ∧ (t 1 = true → v 1 = .agg (vl (a)).toArray) ∧ (t 2 = true → v 2 = .int .i64 (0)) ∧ (t 3 = true → v 3 = .agg (nl (z)).toArray) ∧ (t 4 = true → v 4 = .tuple #[.agg (nl (0)).toArray, .int .i64 (6)]) ∧ (t 5 = true → v 5 = .agg (nl (0)).toArray) ∧ (t 6 = true → v 6 = .int .i64 (6)) ∧ ((t 7 = false → Blk wx (w1.heap.size) (nl (0)) 25) ∧ (t 7 = true → Blk wx (w1.heap.size) (nl (0)) 25) ∧ (t 7 = true → v 7 = undef)) ∧ (t 8 = true → v 8 = .int .i64 (6))) ?_ ?_ ?_
  · exact ⟨(Below.refl _ _).drew, Nat.le_refl _, b_p, b_v, b_sl, (fun h => by cases h), (fun h => by cases h), (fun h => by cases h), (fun h => by cases h), (fun h => by cases h), (fun h => by cases h), (fun h => by cases h), ⟨fun _ => b_r, (fun h => by cases h), (fun h => by cases h)⟩, (fun h => by cases h)⟩
  · simp only [full, Act.put, List.setIfInBounds_toArray, List.set_cons_succ, List.set_cons_zero, Nat.zero_add, Nat.reduceAdd]
    intro i o ho t v wx hS hti hall
    obtain ⟨hB8, hsz, q0, q1, q2, k0, k1, k2, k3, k4, k5, k6, k7, k8⟩ := hS
    have hnw : w.heap.size ≤ wx.heap.size := Nat.le_trans (by omega) hsz
    rcases i with _ | _ | _ | _ | _ | _ | _ | _ | _ | i
    · obtain rfl := Option.some.inj ho
      refine g_load_all 25 _ (w.heap.size) (nl (p)) 25 _ rfl q0 Try.underlying25 rfl (szN 0) ?_
      exact ⟨hB8, hsz, q0, q1, q2, newE rfl, keepE (by decide) k1, keepE (by decide) k2, keepE (by decide) k3, keepE (by decide) k4, keepE (by decide) k5, keepE (by decide) k6, k7, keepE (by decide) k8⟩
    · obtain rfl := Option.some.inj ho
      refine g_load_all 63 _ (w3.heap.size) (vl (a)) 63 _ rfl q1 Try.underlying63 rfl (szV 0) ?_
      exact ⟨hB8, hsz, q0, q1, q2, keepE (by decide) k0, newE rfl, keepE (by decide) k2, keepE (by decide) k3, keepE (by decide) k4, keepE (by decide) k5, keepE (by decide) k6, k7, keepE (by decide) k8⟩
    · obtain rfl := Option.some.inj ho
      refine g_move _ _ rfl ?_
      exact ⟨hB8, hsz, q0, q1, q2, keepE (by decide) k0, keepE (by decide) k1, newE rfl, keepE (by decide) k3, keepE (by decide) k4, keepE (by decide) k5, keepE (by decide) k6, k7, keepE (by decide) k8⟩
    · obtain rfl := Option.some.inj ho
      have d1 := k1 (hall ⟨1, .data⟩ (by simp) rfl)
      have d2 := k2 (hall ⟨2, .data⟩ (by simp) rfl)
      refine g_call 35 _ _ [.agg (vl (a)).toArray, .int .i64 (0)] (kf35 _ _) (by show ([v 1, v 2] : List Value) = _; rw [d1, d2]; (try rfl)) ((way_any a 0 z wx ha ha2 hz).mono ?_)
      rintro e w' ⟨rfl, hb⟩
      exact ⟨_, rfl, hB8.trans (hb.mono hnw), Nat.le_trans hsz hb.size, q0.below hb q0.lt, q1.below hb q1.lt, q2.below hb q2.lt, keepE (by decide) k0, keepE (by decide) k1, keepE (by decide) k2, newE rfl, keepE (by decide) k4, keepE (by decide) k5, keepE (by decide) k6, ⟨fun h7 => (k7.1 h7).below hb (k7.1 h7).lt, fun h7 => (k7.2.1 h7).below hb (k7.2.1 h7).lt, k7.2.2⟩, keepE (by decide) k8⟩
    · obtain rfl := Option.some.inj ho
      have d0 := k0 (hall ⟨0, .data⟩ (by simp) rfl)
      have d3 := k3 (hall ⟨3, .data⟩ (by simp) rfl)
      refine g_call 30 _ _ [.agg (nl (p)).toArray, .agg (nl (z)).toArray] (kf30 _ _) (by show ([v 0, v 3] : List Value) = _; rw [d0, d3]; (try rfl)) ((add_over p z wx hp iz hN).mono ?_)
      rintro e w' ⟨rfl, hb⟩
      exact ⟨_, rfl, hB8.trans (hb.mono hnw), Nat.le_trans hsz hb.size, q0.below hb q0.lt, q1.below hb q1.lt, q2.below hb q2.lt, keepE (by decide) k0, keepE (by decide) k1, keepE (by decide) k2, keepE (by decide) k3, newE rfl, keepE (by decide) k5, keepE (by decide) k6, ⟨fun h7 => (k7.1 h7).below hb (k7.1 h7).lt, fun h7 => (k7.2.1 h7).below hb (k7.2.1 h7).lt, k7.2.2⟩, keepE (by decide) k8⟩
    · obtain rfl := Option.some.inj ho
      have d4 := k4 (hall ⟨4, .data⟩ (by simp) rfl)
      refine g_extract _ _ 0 _ (show v 4 = _ from d4) rfl ?_
      exact ⟨hB8, hsz, q0, q1, q2, keepE (by decide) k0, keepE (by decide) k1, keepE (by decide) k2, keepE (by decide) k3, keepE (by decide) k4, newE rfl, keepE (by decide) k6, k7, keepE (by decide) k8⟩
    · obtain rfl := Option.some.inj ho
      have d4 := k4 (hall ⟨4, .data⟩ (by simp) rfl)
      refine g_extract _ _ 1 _ (show v 4 = _ from d4) rfl ?_
      exact ⟨hB8, hsz, q0, q1, q2, keepE (by decide) k0, keepE (by decide) k1, keepE (by decide) k2, keepE (by decide) k3, keepE (by decide) k4, keepE (by decide) k5, newE rfl, k7, keepE (by decide) k8⟩
    · obtain rfl := Option.some.inj ho
      have d5 := k5 (hall ⟨5, .data⟩ (by simp) rfl)
      refine g_store_all 25 _ _ (w1.heap.size) (nl (0)) _ 25 rfl (show v 5 = _ from d5) (k7.1 hti) (szN 0) rfl (one_nl _) (fun w' h1 h2 => ?_)
      exact ⟨h1.below hB8 (by omega), Nat.le_trans hsz h1.size, h1.blk q0 (by omega), h1.blk q1 (by omega), h1.blk q2 (by omega), keepE (by decide) k0, keepE (by decide) k1, keepE (by decide) k2, keepE (by decide) k3, keepE (by decide) k4, keepE (by decide) k5, keepE (by decide) k6, ⟨(fun h7 => by have h8 := setB_self t 7; rw [h7] at h8; cases h8), fun _ => h2, newE rfl⟩, keepE (by decide) k8⟩
    · obtain rfl := Option.some.inj ho
      have d6 := k6 (hall ⟨6, .data⟩ (by simp) rfl)
      refine g_assign _ _ (show v 6 = _ from d6) ?_
      exact ⟨hB8, hsz, q0, q1, q2, keepE (by decide) k0, keepE (by decide) k1, keepE (by decide) k2, keepE (by decide) k3, keepE (by decide) k4, keepE (by decide) k5, keepE (by decide) k6, k7, newE rfl⟩
    · simp at ho
  · simp only [full, Act.put, List.setIfInBounds_toArray, List.set_cons_succ, List.set_cons_zero, Nat.zero_add, Nat.reduceAdd]
    intro t v w8 hS ht
    obtain ⟨hB8, hsz, q0, q1, q2, k0, k1, k2, k3, k4, k5, k6, k7, k8⟩ := hS
    have f7 := k7.2.1 (ht 7 (by decide))
    have d0 := k0 (ht 0 (by decide)); (try rw [d0])
    have d1 := k1 (ht 1 (by decide)); (try rw [d1])
    have d2 := k2 (ht 2 (by decide)); (try rw [d2])
    have d3 := k3 (ht 3 (by decide)); (try rw [d3])
    have d4 := k4 (ht 4 (by decide)); (try rw [d4])
    have d5 := k5 (ht 5 (by decide)); (try rw [d5])
    have d6 := k6 (ht 6 (by decide)); (try rw [d6])
    have d8 := k8 (ht 8 (by decide)); (try rw [d8])
    clear d0 d1 d2 d3 d4 d5 d6 d8
    clear ht k0 k1 k2 k3 k4 k5 k6 k7 k8  
    generalize v 7 = x7
    replace b_p := q0
    clear q0
    replace b_v := q1
    clear q1
    replace b_sl := q2
    clear q2
    replace b_r := f7
    clear f7
    replace hB := hB.trans hB8
    clear hB8 hsz hB0
    go_wp2_with fail
    exact bodyPost_ret (results_blk_tmp rfl _ (nl (0)) (.int .i64 6) _ rfl rfl b_r Try.underlying25 rfl (szN 0)) rfl ⟨rfl, hB⟩

/-- A stamp's moment near a pivot. -/
def nr (s p : Int) : Int := if 18446744073709551616 < 2 * ((s - p) % 18446744073709551616) then p + (s - p) % 18446744073709551616 - 18446744073709551616 else p + (s - p) % 18446744073709551616
theorem cmp_lt (a b : Int) : cmpI a b < 0 ↔ a < b := by
  unfold cmpI; repeat' split
  all_goals omega
theorem near_ok (s p n : Int) (w : World) (hp : In128 p) (hn : Hid (nr s p = n)) (hN : In128 n) :
    Calls Try.prog 12 #[.int .u64 s, .agg (nl p).toArray] w fun e w' => e = .returned (.tuple #[.agg (nl n).toArray, .int .i64 0]) ∧ Below w.heap.size w w' := by
  have hn := hn.out
  have hb := hp
  unfold In128 at hb
  unfold nr at hn
  have hA : IntKind.u64.wrap (s - p % 18446744073709551616) = (s - p) % 18446744073709551616 := by rw [IntKind.wrap_u64]; omega
  split at hn
  · exact near_lt_ok s p _ _ _ _ ((s - p) % 18446744073709551616 - 18446744073709551616) n w hp rfl hA (by omega) (by omega) rfl rfl ((cmp_lt _ _).2 (by omega)) (by show _ = _; omega) (by unfold In128; omega) (by show _ = _; omega) hN
  · exact near_ge_ok s p _ _ _ _ ((s - p) % 18446744073709551616) n w hp rfl hA (by omega) (by omega) rfl rfl (by rw [cmp_lt]; omega) (by show _ = _; omega) (by unfold In128; omega) (by show _ = _; omega) hN
theorem near_over (s p : Int) (w : World) (hp : In128 p) (hN : ¬ In128 (nr s p)) :
    Calls Try.prog 12 #[.int .u64 s, .agg (nl p).toArray] w fun e w' => e = .returned (.tuple #[.agg (nl 0).toArray, .int .i64 6]) ∧ Below w.heap.size w w' := by
  have hb := hp
  unfold In128 at hb
  unfold nr at hN
  have hA : IntKind.u64.wrap (s - p % 18446744073709551616) = (s - p) % 18446744073709551616 := by rw [IntKind.wrap_u64]; omega
  split at hN
  · exact near_lt_over s p _ _ _ _ ((s - p) % 18446744073709551616 - 18446744073709551616) w hp rfl hA (by omega) (by omega) rfl rfl ((cmp_lt _ _).2 (by omega)) (by show _ = _; omega) (by unfold In128; omega) (by rwa [← Int.add_sub_assoc])
  · exact near_ge_over s p _ _ _ _ ((s - p) % 18446744073709551616) w hp rfl hA (by omega) (by omega) rfl rfl (by rw [cmp_lt]; omega) (by show _ = _; omega) (by unfold In128; omega) hN

end Go.Proofs.Ytpeiboehdjhimaa
