/- What the program's wide.Part answers; nothing that was there is changed. -/
import Derived.Test.YtkgcnbmnhbmdiaaWide5
namespace Go.Proofs.Ytkgcnbmnhbmdiaa
open Go Go.RowKit
set_option linter.unusedVariables false
theorem times_l (a b M : Int) (hM : Hid (a * b = M)) (w : World) (ha : In64 a) (hb : In64 b) :
    Calls Try.prog 25 #[.int .i64 a, .int .i64 b] w fun e w' => e = .returned (.agg (nl M).toArray) ∧ Below w.heap.size w w' := by
  have h := times_any a b w ha hb
  rwa [hM.out] at h
theorem prod_in (a b M : Int) (hM : Hid (a * b = M)) (ha : In64 a) (hb : In64 b) : Hid (In128 M) := by
  have h := prod_bound a b ha hb
  have e := hM.out
  show In128 M
  unfold In128
  omega
theorem add_l (a b s : Int) (w : World) (ha : In128 a) (hb : In128 b) (hs : In128 s) (h : Hid (a + b = s)) :
    Calls Try.prog 12 #[.agg (nl a).toArray, .agg (nl b).toArray] w fun e w' => e = .returned (.tuple #[.agg (nl s).toArray, .int .i64 0]) ∧ Below w.heap.size w w' := by
  have e := h.out
  subst e
  exact add_ok a b w ha hb hs
theorem sub_l (a b s : Int) (w : World) (ha : In128 a) (hb : In128 b) (hs : In128 s) (h : Hid (a - b = s)) :
    Calls Try.prog 13 #[.agg (nl a).toArray, .agg (nl b).toArray] w fun e w' => e = .returned (.tuple #[.agg (nl s).toArray, .int .i64 0]) ∧ Below w.heap.size w w' := by
  have e := h.out
  subst e
  exact sub_ok a b w ha hb hs
theorem In64.to (n : Int) (h : In64 n) : In128 n := by unfold In64 at h; unfold In128; omega

set_option maxRecDepth 10000 in
set_option maxHeartbeats 2000000 in
theorem part_bad (a b n M : Int) (hM : Hid (a * b = M)) (w : World) (ha : In64 a) (hb : In64 b) (hn : n < 1) :
    Calls Try.prog 23 #[.int .i64 a, .int .i64 b, .int .i64 n] w fun e w' => e = .returned (.tuple #[.int .i64 0, .int .i64 1]) ∧ Below w.heap.size w w' := by
  go_enter Try.func23, Try.ntmps23
  go_wp2_with fail
  refine (times_l a b M hM w ha hb).mono ?_
  rintro e w1 ⟨rfl, t_⟩
  have hB := t_
  clear t_
  go_wp2_with fail
  refine (div_bad M n w1 hn).mono ?_
  rintro e w2 ⟨rfl, t_⟩
  replace hB := hB.trans (t_.mono hB.size)
  clear t_
  go_wp2_with (first
    | ((with_reducible refine at_allocD 8 24 ?_); refine L_alloc 24 (nl (0)) zero24 ?_; intro w3 t_ b_p; have l_p : w.heap.size ≤ w2.heap.size := hB.size; replace hB := t_.below hB l_p; clear t_)
    | ((with_reducible refine at_storeX 8 24 ?_); refine L_store_all 24 _ _ (w2.heap.size) (nl (0)) _ 24 rfl rfl b_p (sz24 0) (rfl) (one_nl _) ?_; clear b_p; intro w4 t_ b_p; replace hB := t_.below hB l_p; clear t_))
  go_ret2
  exact ⟨rfl, hB⟩

set_option maxRecDepth 10000 in
set_option maxHeartbeats 2000000 in
theorem part_ok (a b n M Q : Int) (hM : Hid (a * b = M)) (w : World) (ha : In64 a) (hb : In64 b) (h0 : 1 ≤ n) (h1 : n < 9223372036854775808) (hQ : Hid (M / n = Q)) (hq : In64 Q) :
    Calls Try.prog 23 #[.int .i64 a, .int .i64 b, .int .i64 n] w fun e w' => e = .returned (.tuple #[.int .i64 Q, .int .i64 0]) ∧ Below w.heap.size w w' := by
  obtain ⟨R, hR⟩ : ∃ R, M % n = R := ⟨_, rfl⟩
  replace hR : Hid _ := hR
  have hI := prod_in a b M hM ha hb
  go_enter Try.func23, Try.ntmps23
  go_wp2_with fail
  refine (times_l a b M hM w ha hb).mono ?_
  rintro e w1 ⟨rfl, t_⟩
  have hB := t_
  clear t_
  go_wp2_with fail
  refine (div_any M n w1 hI.out h0 h1 Q R hQ hR).mono ?_
  rintro e w2 ⟨rfl, t_⟩
  replace hB := hB.trans (t_.mono hB.size)
  clear t_
  go_wp2_with (first
    | ((with_reducible refine at_allocD 8 24 ?_); refine L_alloc 24 (nl (0)) zero24 ?_; intro w3 t_ b_p; have l_p : w.heap.size ≤ w2.heap.size := hB.size; replace hB := t_.below hB l_p; clear t_)
    | ((with_reducible refine at_storeX 8 24 ?_); refine L_store_all 24 _ _ (w2.heap.size) (nl (Q)) _ 24 rfl rfl b_p (sz24 0) (rfl) (one_nl _) ?_; clear b_p; intro w4 t_ b_p; replace hB := t_.below hB l_p; clear t_)
    | ((with_reducible refine at_loadD 23 24 ?_); refine L_load_all 24 _ (w2.heap.size) (nl (Q)) 24 _ rfl b_p Try.underlying24 rfl (sz24 0) ?_))
  refine (int_ok Q w4 hq).mono ?_
  rintro e w5 ⟨rfl, t_⟩
  replace b_p := b_p.below t_ b_p.lt
  replace hB := hB.trans (t_.mono hB.size)
  clear t_
  go_wp2_with fail
  go_ret2
  exact ⟨rfl, hB⟩

set_option maxRecDepth 10000 in
set_option maxHeartbeats 2000000 in
theorem part_over (a b n M Q : Int) (hM : Hid (a * b = M)) (w : World) (ha : In64 a) (hb : In64 b) (h0 : 1 ≤ n) (h1 : n < 9223372036854775808) (hQ : Hid (M / n = Q)) (hq : ¬ In64 Q) :
    Calls Try.prog 23 #[.int .i64 a, .int .i64 b, .int .i64 n] w fun e w' => e = .returned (.tuple #[.int .i64 0, .int .i64 6]) ∧ Below w.heap.size w w' := by
  obtain ⟨R, hR⟩ : ∃ R, M % n = R := ⟨_, rfl⟩
  replace hR : Hid _ := hR
  have hI := prod_in a b M hM ha hb
  go_enter Try.func23, Try.ntmps23
  go_wp2_with fail
  refine (times_l a b M hM w ha hb).mono ?_
  rintro e w1 ⟨rfl, t_⟩
  have hB := t_
  clear t_
  go_wp2_with fail
  refine (div_any M n w1 hI.out h0 h1 Q R hQ hR).mono ?_
  rintro e w2 ⟨rfl, t_⟩
  replace hB := hB.trans (t_.mono hB.size)
  clear t_
  go_wp2_with (first
    | ((with_reducible refine at_allocD 8 24 ?_); refine L_alloc 24 (nl (0)) zero24 ?_; intro w3 t_ b_p; have l_p : w.heap.size ≤ w2.heap.size := hB.size; replace hB := t_.below hB l_p; clear t_)
    | ((with_reducible refine at_storeX 8 24 ?_); refine L_store_all 24 _ _ (w2.heap.size) (nl (Q)) _ 24 rfl rfl b_p (sz24 0) (rfl) (one_nl _) ?_; clear b_p; intro w4 t_ b_p; replace hB := t_.below hB l_p; clear t_)
    | ((with_reducible refine at_loadD 23 24 ?_); refine L_load_all 24 _ (w2.heap.size) (nl (Q)) 24 _ rfl b_p Try.underlying24 rfl (sz24 0) ?_))
  refine (int_over Q w4 hq).mono ?_
  rintro e w5 ⟨rfl, t_⟩
  replace b_p := b_p.below t_ b_p.lt
  replace hB := hB.trans (t_.mono hB.size)
  clear t_
  go_wp2_with fail
  go_ret2
  exact ⟨rfl, hB⟩

set_option maxRecDepth 10000 in
set_option maxHeartbeats 2000000 in
theorem awake_any (w : World) : Calls Try.prog 11 #[] w fun e w' => e = .returned (.bool true) ∧ Below w.heap.size w w' := by
  go_enter Try.func11, Try.ntmps11
  go_wp2_with fail
  refine (times_l (-3) 5 (-15) (by show _ = _; decide) w (by unfold In64; omega) (by unfold In64; omega)).mono ?_
  rintro e w1 ⟨rfl, t_⟩
  have hB := t_
  clear t_
  go_wp2_with (first
    | ((with_reducible refine at_allocD 1 24 ?_); refine L_alloc 24 (nl (0)) zero24 ?_; intro w2 t_ b_p; have l_p : w.heap.size ≤ w1.heap.size := hB.size; replace hB := t_.below hB l_p; clear t_)
    | ((with_reducible refine at_storeX 1 24 ?_); refine L_store_all 24 _ _ (w1.heap.size) (nl (-15)) _ 24 rfl rfl b_p (sz24 0) (rfl) (one_nl _) ?_; clear b_p; intro w3 t_ b_p; replace hB := t_.below hB l_p; clear t_)
    | ((with_reducible refine at_loadD 22 24 ?_); refine L_load_all 24 _ (w1.heap.size) (nl (-15)) 24 _ rfl b_p Try.underlying24 rfl (sz24 0) ?_))
  refine (div_any (-15) 4 w3 (by unfold In128; omega) (by omega) (by omega) (-4) 1 (by show _ = _; decide) (by show _ = _; decide)).mono ?_
  rintro e w4 ⟨rfl, t_⟩
  replace b_p := b_p.below t_ b_p.lt
  replace hB := hB.trans (t_.mono hB.size)
  clear t_
  go_wp2_with (first
    | ((with_reducible refine at_allocD 2 24 ?_); refine L_alloc 24 (nl (0)) zero24 ?_; intro w5 t_ b_q; have l_q : w.heap.size ≤ w4.heap.size := hB.size; have o_q := b_p.lt; replace b_p := t_.blk b_p (by omega); replace hB := t_.below hB l_q; clear t_)
    | ((with_reducible refine at_storeX 2 24 ?_); refine L_store_all 24 _ _ (w4.heap.size) (nl (-4)) _ 24 rfl rfl b_q (sz24 0) (rfl) (one_nl _) ?_; clear b_q; intro w6 t_ b_q; replace b_p := t_.blk b_p (by omega); replace hB := t_.below hB l_q; clear t_))
  refine (part_ok 4611686018427387904 8 16 36893488147419103232 2305843009213693952 (by show _ = _; decide) w6 (by unfold In64; omega) (by unfold In64; omega) (by omega) (by omega) (by show _ = _; decide) (by unfold In64; omega)).mono ?_
  rintro e w7 ⟨rfl, t_⟩
  replace b_p := b_p.below t_ b_p.lt
  replace b_q := b_q.below t_ b_q.lt
  replace hB := hB.trans (t_.mono hB.size)
  clear t_
  go_wp2_with fail
  refine (part_bad 1 1 0 1 (by show _ = _; decide) w7 (by unfold In64; omega) (by unfold In64; omega) (by omega)).mono ?_
  rintro e w8 ⟨rfl, t_⟩
  replace b_p := b_p.below t_ b_p.lt
  replace b_q := b_q.below t_ b_q.lt
  replace hB := hB.trans (t_.mono hB.size)
  clear t_
  go_wp2_with fail
  refine (part_over 4611686018427387904 8 1 36893488147419103232 36893488147419103232 (by show _ = _; decide) w8 (by unfold In64; omega) (by unfold In64; omega) (by omega) (by omega) (by show _ = _; decide) (by unfold In64; omega)).mono ?_
  rintro e w9 ⟨rfl, t_⟩
  replace b_p := b_p.below t_ b_p.lt
  replace b_q := b_q.below t_ b_q.lt
  replace hB := hB.trans (t_.mono hB.size)
  clear t_
  go_wp2_with (first
    | ((with_reducible refine at_allocD 11 24 ?_); refine L_alloc 24 (nl (0)) zero24 ?_; intro w10 t_ b_top; have l_top : w.heap.size ≤ w9.heap.size := hB.size; have o_top := b_q.lt; replace b_p := t_.blk b_p (by omega); replace b_q := t_.blk b_q (by omega); replace hB := t_.below hB l_top; clear t_)
    | ((with_reducible refine at_storeX 11 24 ?_); refine L_store_all 24 _ _ (w9.heap.size) (nl (170141183460469231731687303715884105727)) _ 24 rfl rfl b_top (sz24 0) (rfl) (one_nl _) ?_; clear b_top; intro w11 t_ b_top; replace b_p := t_.blk b_p (by omega); replace b_q := t_.blk b_q (by omega); replace hB := t_.below hB l_top; clear t_)
    | ((with_reducible refine stop_region 7 ?_); intro X1 hX1))
  refine hX1.out ?_
  clear hX1
  refine wp_region_inv (by kernel_rfl) (by kernel_rfl) (fun t v wx => Below (w11.heap.size) w11 wx ∧ w11.heap.size ≤ wx.heap.size ∧ (t 0 = true → v 0 = .agg (nl (170141183460469231731687303715884105727)).toArray) ∧ (t 1 = true → v 1 = .agg (nl (1)).toArray) ∧ (t 2 = true → v 2 = .tuple #[.agg (nl (0)).toArray, .int .i64 (6)]) ∧ (t 3 = true → v 3 = .tuple #[.agg (nl (0)).toArray, .int .i64 (6)]) ∧ (t 4 = true → v 4 = .agg (nl (0)).toArray) ∧ (t 5 = true → v 5 = .int .i64 (6)) ∧ (t 6 = true → ∃ p, v 6 = .pointer (some ⟨p, 0, none⟩) ∧ w11.heap.size ≤ p ∧ p < wx.heap.size ∧ (t 7 = false → Blk wx p (nl (0)) 24) ∧ (t 7 = true → Blk wx p (nl (0)) 24)) ∧ (t 7 = true → t 6 = true) ∧ (t 8 = true → v 8 = .int .i64 (6))) ?_ ?_ ?_
  · exact ⟨(Below.refl _ _).drew, Nat.le_refl _, (fun h => by cases h), (fun h => by cases h), (fun h => by cases h), (fun h => by cases h), (fun h => by cases h), (fun h => by cases h), (fun h => by cases h), (fun h => by cases h), (fun h => by cases h)⟩
  · simp only [full, Act.put, List.setIfInBounds_toArray, List.set_cons_succ, List.set_cons_zero, Nat.zero_add, Nat.reduceAdd]
    intro i o ho t v wx hS hti hall
    obtain ⟨hB8, hsz, k0, k1, k2, k3, k4, k5, k6, k7, k8⟩ := hS
    have hnw : w11.heap.size ≤ wx.heap.size := Nat.le_trans (by omega) hsz
    rcases i with _ | _ | _ | _ | _ | _ | _ | _ | _ | i
    · obtain rfl := Option.some.inj ho
      refine g_load_all 24 _ (w9.heap.size) (nl (170141183460469231731687303715884105727)) 24 _ rfl (b_top.below hB8 b_top.lt) Try.underlying24 rfl (sz24 0) ?_
      exact ⟨hB8, hsz, newE rfl, keepE (by decide) k1, keepE (by decide) k2, keepE (by decide) k3, keepE (by decide) k4, keepE (by decide) k5, k6, k7, keepE (by decide) k8⟩
    · obtain rfl := Option.some.inj ho
      refine g_call 17 _ _ [.int .i64 (1)] (kf17 _ _) (by show ([.int .i64 (1)] : List Value) = _; rfl) ((of_any 1 wx (by unfold In64; omega)).mono ?_)
      rintro e w' ⟨rfl, hb⟩
      exact ⟨_, rfl, hB8.trans (hb.mono hnw), Nat.le_trans hsz hb.size, keepE (by decide) k0, newE rfl, keepE (by decide) k2, keepE (by decide) k3, keepE (by decide) k4, keepE (by decide) k5, (fun ht => by obtain ⟨p, e1, e2, e5, e3, e4⟩ := k6 ht; exact ⟨p, e1, e2, Nat.lt_of_lt_of_le e5 hb.size, fun h7 => (e3 h7).below hb e5, fun h7 => (e4 h7).below hb e5⟩), k7, keepE (by decide) k8⟩
    · obtain rfl := Option.some.inj ho
      have d0 := k0 (hall ⟨0, .data⟩ (by simp) rfl)
      have d1 := k1 (hall ⟨1, .data⟩ (by simp) rfl)
      refine g_call 12 _ _ [.agg (nl (170141183460469231731687303715884105727)).toArray, .agg (nl (1)).toArray] (kf12 _ _) (by show ([v 0, v 1] : List Value) = _; rw [d0, d1]; (try rfl)) ((add_over 170141183460469231731687303715884105727 1 wx (by unfold In128; omega) (by unfold In128; omega) (by unfold In128; omega)).mono ?_)
      rintro e w' ⟨rfl, hb⟩
      exact ⟨_, rfl, hB8.trans (hb.mono hnw), Nat.le_trans hsz hb.size, keepE (by decide) k0, keepE (by decide) k1, newE rfl, keepE (by decide) k3, keepE (by decide) k4, keepE (by decide) k5, (fun ht => by obtain ⟨p, e1, e2, e5, e3, e4⟩ := k6 ht; exact ⟨p, e1, e2, Nat.lt_of_lt_of_le e5 hb.size, fun h7 => (e3 h7).below hb e5, fun h7 => (e4 h7).below hb e5⟩), k7, keepE (by decide) k8⟩
    · obtain rfl := Option.some.inj ho
      have d2 := k2 (hall ⟨2, .data⟩ (by simp) rfl)
      refine g_move _ _ (show v 2 = _ from d2) ?_
      exact ⟨hB8, hsz, keepE (by decide) k0, keepE (by decide) k1, keepE (by decide) k2, newE rfl, keepE (by decide) k4, keepE (by decide) k5, k6, k7, keepE (by decide) k8⟩
    · obtain rfl := Option.some.inj ho
      have d3 := k3 (hall ⟨3, .data⟩ (by simp) rfl)
      refine g_extract _ _ 0 _ (show v 3 = _ from d3) rfl ?_
      exact ⟨hB8, hsz, keepE (by decide) k0, keepE (by decide) k1, keepE (by decide) k2, keepE (by decide) k3, newE rfl, keepE (by decide) k5, k6, k7, keepE (by decide) k8⟩
    · obtain rfl := Option.some.inj ho
      have d3 := k3 (hall ⟨3, .data⟩ (by simp) rfl)
      refine g_extract _ _ 1 _ (show v 3 = _ from d3) rfl ?_
      exact ⟨hB8, hsz, keepE (by decide) k0, keepE (by decide) k1, keepE (by decide) k2, keepE (by decide) k3, keepE (by decide) k4, newE rfl, k6, k7, keepE (by decide) k8⟩
    · obtain rfl := Option.some.inj ho
      refine g_alloc 24 _ zero24 (fun w' h1 h2 => ?_)
      exact ⟨h1.below hB8 hnw, Nat.le_trans hsz h1.size, keepE (by decide) k0, keepE (by decide) k1, keepE (by decide) k2, keepE (by decide) k3, keepE (by decide) k4, keepE (by decide) k5, (fun ht => ⟨wx.heap.size, setV_self _ _ _, hsz, h2.lt, fun _ => h2, fun h7 => by have h6 := k7 h7; rw [hti] at h6; cases h6⟩), (fun _ => setB_self _ _), keepE (by decide) k8⟩
    · obtain rfl := Option.some.inj ho
      have ht6 := hall ⟨6, .data⟩ (by simp) rfl
      have d4 := k4 (hall ⟨4, .data⟩ (by simp) rfl)
      obtain ⟨p, e1, e2, e5, e3, e4⟩ := k6 ht6
      refine g_store_all 24 _ _ p (nl (0)) _ 24 (show v 6 = _ from e1) (show v 4 = _ from d4) (e3 hti) (sz24 0) (rfl) (one_nl _) (fun w' h1 h2 => ?_)
      exact ⟨h1.below hB8 (by omega), Nat.le_trans hsz h1.size, keepE (by decide) k0, keepE (by decide) k1, keepE (by decide) k2, keepE (by decide) k3, keepE (by decide) k4, keepE (by decide) k5, (fun ht => ⟨p, e1, e2, Nat.lt_of_lt_of_le e5 h1.size, (fun h7 => by have h8 := setB_self t 7; rw [h7] at h8; cases h8), fun _ => h2⟩), (fun _ => ht6), keepE (by decide) k8⟩
    · obtain rfl := Option.some.inj ho
      have d5 := k5 (hall ⟨5, .data⟩ (by simp) rfl)
      refine g_assign _ _ (show v 5 = _ from d5) ?_
      exact ⟨hB8, hsz, keepE (by decide) k0, keepE (by decide) k1, keepE (by decide) k2, keepE (by decide) k3, keepE (by decide) k4, keepE (by decide) k5, k6, k7, newE rfl⟩
    · simp at ho
  · simp only [full, Act.put, List.setIfInBounds_toArray, List.set_cons_succ, List.set_cons_zero, Nat.zero_add, Nat.reduceAdd]
    intro t v w12 hS ht
    obtain ⟨hB8, hsz, k0, k1, k2, k3, k4, k5, k6, k7, k8⟩ := hS
    obtain ⟨p1_6, e6, g6, -, -, f6⟩ := k6 (ht 6 (by decide)); replace f6 := f6 (ht 7 (by decide))
    rw [e6]
    have d0 := k0 (ht 0 (by decide)); (try rw [d0])
    have d1 := k1 (ht 1 (by decide)); (try rw [d1])
    have d2 := k2 (ht 2 (by decide)); (try rw [d2])
    have d3 := k3 (ht 3 (by decide)); (try rw [d3])
    have d4 := k4 (ht 4 (by decide)); (try rw [d4])
    have d5 := k5 (ht 5 (by decide)); (try rw [d5])
    have d8 := k8 (ht 8 (by decide)); (try rw [d8])
    clear d0 d1 d2 d3 d4 d5 d8
    clear ht k0 k1 k2 k3 k4 k5 k6 k7 k8 e6 
    generalize v 7 = x7
    have b_u := f6
    clear f6
    have o_u : w9.heap.size < p1_6 := Nat.lt_of_lt_of_le b_top.lt g6
    have l_u : w.heap.size ≤ p1_6 := Nat.le_trans hB.size g6
    clear g6
    replace b_p := b_p.below hB8 b_p.lt
    replace b_q := b_q.below hB8 b_q.lt
    replace b_top := b_top.below hB8 b_top.lt
    replace hB := hB.trans (hB8.mono hB.size)
    clear hB8
    clear hsz
    go_wp2_with (first
      | ((with_reducible refine stop_region 8 ?_); intro X2 hX2))
    refine hX2.out ?_
    clear hX2
    refine wp_region_inv (by kernel_rfl) (by kernel_rfl) (fun t v wx => Below (w12.heap.size) w12 wx ∧ w12.heap.size ≤ wx.heap.size ∧ (t 0 = true → v 0 = .agg (nl (170141183460469231731687303715884105727)).toArray) ∧ (t 1 = true → v 1 = .agg (nl (-1)).toArray) ∧ (t 2 = true → v 2 = .tuple #[.agg (nl (0)).toArray, .int .i64 (6)]) ∧ (t 3 = true → v 3 = .tuple #[.agg (nl (0)).toArray, .int .i64 (6)]) ∧ (t 4 = true → v 4 = .agg (nl (0)).toArray) ∧ (t 5 = true → v 5 = .int .i64 (6)) ∧ (t 6 = true → ∃ p, v 6 = .pointer (some ⟨p, 0, none⟩) ∧ w12.heap.size ≤ p ∧ p < wx.heap.size ∧ (t 7 = false → Blk wx p (nl (0)) 24) ∧ (t 7 = true → Blk wx p (nl (0)) 24)) ∧ (t 7 = true → t 6 = true) ∧ (t 8 = true → v 8 = .int .i64 (6))) ?_ ?_ ?_
    · exact ⟨(Below.refl _ _).drew, Nat.le_refl _, (fun h => by cases h), (fun h => by cases h), (fun h => by cases h), (fun h => by cases h), (fun h => by cases h), (fun h => by cases h), (fun h => by cases h), (fun h => by cases h), (fun h => by cases h)⟩
    · simp only [full, Act.put, List.setIfInBounds_toArray, List.set_cons_succ, List.set_cons_zero, Nat.zero_add, Nat.reduceAdd]
      intro i o ho t v wx hS hti hall
      obtain ⟨hB8, hsz, k0, k1, k2, k3, k4, k5, k6, k7, k8⟩ := hS
      have hnw : w12.heap.size ≤ wx.heap.size := Nat.le_trans (by omega) hsz
      rcases i with _ | _ | _ | _ | _ | _ | _ | _ | _ | i
      · obtain rfl := Option.some.inj ho
        refine g_load_all 24 _ (w9.heap.size) (nl (170141183460469231731687303715884105727)) 24 _ rfl (b_top.below hB8 b_top.lt) Try.underlying24 rfl (sz24 0) ?_
        exact ⟨hB8, hsz, newE rfl, keepE (by decide) k1, keepE (by decide) k2, keepE (by decide) k3, keepE (by decide) k4, keepE (by decide) k5, k6, k7, keepE (by decide) k8⟩
      · obtain rfl := Option.some.inj ho
        refine g_call 17 _ _ [.int .i64 (-1)] (kf17 _ _) (by show ([.int .i64 (-1)] : List Value) = _; rfl) ((of_any (-1) wx (by unfold In64; omega)).mono ?_)
        rintro e w' ⟨rfl, hb⟩
        exact ⟨_, rfl, hB8.trans (hb.mono hnw), Nat.le_trans hsz hb.size, keepE (by decide) k0, newE rfl, keepE (by decide) k2, keepE (by decide) k3, keepE (by decide) k4, keepE (by decide) k5, (fun ht => by obtain ⟨p, e1, e2, e5, e3, e4⟩ := k6 ht; exact ⟨p, e1, e2, Nat.lt_of_lt_of_le e5 hb.size, fun h7 => (e3 h7).below hb e5, fun h7 => (e4 h7).below hb e5⟩), k7, keepE (by decide) k8⟩
      · obtain rfl := Option.some.inj ho
        have d0 := k0 (hall ⟨0, .data⟩ (by simp) rfl)
        have d1 := k1 (hall ⟨1, .data⟩ (by simp) rfl)
        refine g_call 13 _ _ [.agg (nl (170141183460469231731687303715884105727)).toArray, .agg (nl (-1)).toArray] (kf13 _ _) (by show ([v 0, v 1] : List Value) = _; rw [d0, d1]; (try rfl)) ((sub_over 170141183460469231731687303715884105727 (-1) wx (by unfold In128; omega) (by unfold In128; omega) (by unfold In128; omega)).mono ?_)
        rintro e w' ⟨rfl, hb⟩
        exact ⟨_, rfl, hB8.trans (hb.mono hnw), Nat.le_trans hsz hb.size, keepE (by decide) k0, keepE (by decide) k1, newE rfl, keepE (by decide) k3, keepE (by decide) k4, keepE (by decide) k5, (fun ht => by obtain ⟨p, e1, e2, e5, e3, e4⟩ := k6 ht; exact ⟨p, e1, e2, Nat.lt_of_lt_of_le e5 hb.size, fun h7 => (e3 h7).below hb e5, fun h7 => (e4 h7).below hb e5⟩), k7, keepE (by decide) k8⟩
      · obtain rfl := Option.some.inj ho
        have d2 := k2 (hall ⟨2, .data⟩ (by simp) rfl)
        refine g_move _ _ (show v 2 = _ from d2) ?_
        exact ⟨hB8, hsz, keepE (by decide) k0, keepE (by decide) k1, keepE (by decide) k2, newE rfl, keepE (by decide) k4, keepE (by decide) k5, k6, k7, keepE (by decide) k8⟩
      · obtain rfl := Option.some.inj ho
        have d3 := k3 (hall ⟨3, .data⟩ (by simp) rfl)
        refine g_extract _ _ 0 _ (show v 3 = _ from d3) rfl ?_
        exact ⟨hB8, hsz, keepE (by decide) k0, keepE (by decide) k1, keepE (by decide) k2, keepE (by decide) k3, newE rfl, keepE (by decide) k5, k6, k7, keepE (by decide) k8⟩
      · obtain rfl := Option.some.inj ho
        have d3 := k3 (hall ⟨3, .data⟩ (by simp) rfl)
        refine g_extract _ _ 1 _ (show v 3 = _ from d3) rfl ?_
        exact ⟨hB8, hsz, keepE (by decide) k0, keepE (by decide) k1, keepE (by decide) k2, keepE (by decide) k3, keepE (by decide) k4, newE rfl, k6, k7, keepE (by decide) k8⟩
      · obtain rfl := Option.some.inj ho
        refine g_alloc 24 _ zero24 (fun w' h1 h2 => ?_)
        exact ⟨h1.below hB8 hnw, Nat.le_trans hsz h1.size, keepE (by decide) k0, keepE (by decide) k1, keepE (by decide) k2, keepE (by decide) k3, keepE (by decide) k4, keepE (by decide) k5, (fun ht => ⟨wx.heap.size, setV_self _ _ _, hsz, h2.lt, fun _ => h2, fun h7 => by have h6 := k7 h7; rw [hti] at h6; cases h6⟩), (fun _ => setB_self _ _), keepE (by decide) k8⟩
      · obtain rfl := Option.some.inj ho
        have ht6 := hall ⟨6, .data⟩ (by simp) rfl
        have d4 := k4 (hall ⟨4, .data⟩ (by simp) rfl)
        obtain ⟨p, e1, e2, e5, e3, e4⟩ := k6 ht6
        refine g_store_all 24 _ _ p (nl (0)) _ 24 (show v 6 = _ from e1) (show v 4 = _ from d4) (e3 hti) (sz24 0) (rfl) (one_nl _) (fun w' h1 h2 => ?_)
        exact ⟨h1.below hB8 (by omega), Nat.le_trans hsz h1.size, keepE (by decide) k0, keepE (by decide) k1, keepE (by decide) k2, keepE (by decide) k3, keepE (by decide) k4, keepE (by decide) k5, (fun ht => ⟨p, e1, e2, Nat.lt_of_lt_of_le e5 h1.size, (fun h7 => by have h8 := setB_self t 7; rw [h7] at h8; cases h8), fun _ => h2⟩), (fun _ => ht6), keepE (by decide) k8⟩
      · obtain rfl := Option.some.inj ho
        have d5 := k5 (hall ⟨5, .data⟩ (by simp) rfl)
        refine g_assign _ _ (show v 5 = _ from d5) ?_
        exact ⟨hB8, hsz, keepE (by decide) k0, keepE (by decide) k1, keepE (by decide) k2, keepE (by decide) k3, keepE (by decide) k4, keepE (by decide) k5, k6, k7, newE rfl⟩
      · simp at ho
    · simp only [full, Act.put, List.setIfInBounds_toArray, List.set_cons_succ, List.set_cons_zero, Nat.zero_add, Nat.reduceAdd]
      intro t v w13 hS ht
      obtain ⟨hB8, hsz, k0, k1, k2, k3, k4, k5, k6, k7, k8⟩ := hS
      obtain ⟨p2_6, e6, g6, -, -, f6⟩ := k6 (ht 6 (by decide)); replace f6 := f6 (ht 7 (by decide))
      rw [e6]
      have d0 := k0 (ht 0 (by decide)); (try rw [d0])
      have d1 := k1 (ht 1 (by decide)); (try rw [d1])
      have d2 := k2 (ht 2 (by decide)); (try rw [d2])
      have d3 := k3 (ht 3 (by decide)); (try rw [d3])
      have d4 := k4 (ht 4 (by decide)); (try rw [d4])
      have d5 := k5 (ht 5 (by decide)); (try rw [d5])
      have d8 := k8 (ht 8 (by decide)); (try rw [d8])
      clear d0 d1 d2 d3 d4 d5 d8
      clear ht k0 k1 k2 k3 k4 k5 k6 k7 k8 e6 
      generalize v 7 = x7
      have b_s := f6
      clear f6
      have o_s : p1_6 < p2_6 := Nat.lt_of_lt_of_le b_u.lt g6
      have l_s : w.heap.size ≤ p2_6 := Nat.le_trans hB.size g6
      clear g6
      replace b_p := b_p.below hB8 b_p.lt
      replace b_q := b_q.below hB8 b_q.lt
      replace b_top := b_top.below hB8 b_top.lt
      replace b_u := b_u.below hB8 b_u.lt
      replace hB := hB.trans (hB8.mono hB.size)
      clear hB8
      clear hsz
      go_wp2_with fail
      refine (of_any (-7) w13 (by unfold In64; omega)).mono ?_
      rintro e w14 ⟨rfl, t_⟩
      replace b_p := b_p.below t_ b_p.lt
      replace b_q := b_q.below t_ b_q.lt
      replace b_top := b_top.below t_ b_top.lt
      replace b_u := b_u.below t_ b_u.lt
      replace b_s := b_s.below t_ b_s.lt
      replace hB := hB.trans (t_.mono hB.size)
      clear t_
      go_wp2_with fail
      refine (int_ok (-7) w14 (by unfold In64; omega)).mono ?_
      rintro e w15 ⟨rfl, t_⟩
      replace b_p := b_p.below t_ b_p.lt
      replace b_q := b_q.below t_ b_q.lt
      replace b_top := b_top.below t_ b_top.lt
      replace b_u := b_u.below t_ b_u.lt
      replace b_s := b_s.below t_ b_s.lt
      replace hB := hB.trans (t_.mono hB.size)
      clear t_
      go_wp2_with fail
      refine (int_over 18446744073709551616 w15 (by unfold In64; omega)).mono ?_
      rintro e w16 ⟨rfl, t_⟩
      replace b_p := b_p.below t_ b_p.lt
      replace b_q := b_q.below t_ b_q.lt
      replace b_top := b_top.below t_ b_top.lt
      replace b_u := b_u.below t_ b_u.lt
      replace b_s := b_s.below t_ b_s.lt
      replace hB := hB.trans (t_.mono hB.size)
      clear t_
      go_wp2_with (first
        | ((with_reducible refine stop_region 11 ?_); intro X3 hX3))
      refine hX3.out ?_
      clear hX3
      simp only [List.append_eq, List.cons_append, List.nil_append]
      refine wp_region_fixed (by kernel_rfl) (by kernel_rfl) [.agg (nl (-15)).toArray, .agg (nl (-15)).toArray, .bool true, .bool true, .agg (nl (-4)).toArray, .agg (nl (-4)).toArray, .bool true, .bool true, .bool true, .int .i64 (1), .bool true, .bool true, .bool true, .int .i64 (0), .bool true, .bool true, .bool true, .int .i64 (2305843009213693952), .bool true, .bool true, .bool true, .int .i64 (0), .bool true, .bool true, .bool true, .int .i64 (1), .bool true, .bool true, .bool true, .int .i64 (6), .bool true, .bool true, .bool true, .int .i64 (6), .bool true, .bool true, .bool true, .agg (nl (0)).toArray, .agg (nl (0)).toArray, .bool true, .bool true, .bool true, .int .i64 (6), .bool true, .bool true, .bool true, .int .i64 (-7), .bool true, .bool true, .bool true, .int .i64 (0), .bool true, .bool true, .bool true, .int .i64 (6), .bool true, .bool true, .bool true, .agg (nl (-15)).toArray, .agg (nl (-4)).toArray, .int .i64 (-1), .bool true, .bool true, .bool true, .agg (nl (-4)).toArray, .agg (nl (-4)).toArray, .int .i64 (0), .bool true, .bool true, .bool true, .agg (nl (-1)).toArray, .agg (nl (-1)).toArray, .bool true, .bool true, .bool true] (by rfl) (fun w9 => Below w16.heap.size w16 w9) (Below.refl _ _).drew ?_ ?_
      · simp only [fullL, Act.put, List.setIfInBounds_toArray, List.set_cons_succ, List.set_cons_zero]
        refine ⟨?_, ?_, ?_, ?_, ?_, ?_, ?_, ?_, ?_, ?_, ?_, ?_, ?_, ?_, ?_, ?_, ?_, ?_, ?_, ?_, ?_, ?_, ?_, ?_, ?_, ?_, ?_, ?_, ?_, ?_, ?_, ?_, ?_, ?_, ?_, ?_, ?_, ?_, ?_, ?_, ?_, ?_, ?_, ?_, ?_, ?_, ?_, ?_, ?_, ?_, ?_, ?_, ?_, ?_, ?_, ?_, ?_, ?_, ?_, ?_, ?_, ?_, ?_, ?_, ?_, ?_, ?_, ?_, ?_, ?_, ?_, ?_, ?_, ?_, ?_, trivial⟩
        · exact fun w9 hw => gw rfl (g_load_all 24 _ (w1.heap.size) _ 24 _ rfl (b_p.below hw b_p.lt) Try.underlying24 rfl (sz24 0) ⟨rfl, hw⟩)
        · exact fun w9 hw => gw rfl (g_call 17 _ _ [.int .i64 (-15)] (kf17 _ _) rfl (mono_val hw (of_any (-15) w9 (by unfold In64; omega))))
        · exact fun w9 hw => gw rfl (g_eql24 _ _ (-15) (-15) true rfl rfl (decide_eq_true rfl) ⟨rfl, hw⟩)
        · exact fun w9 hw => gw rfl (g_move _ _ rfl ⟨rfl, hw⟩)
        · exact fun w9 hw => gw rfl (g_load_all 24 _ (w4.heap.size) _ 24 _ rfl (b_q.below hw b_q.lt) Try.underlying24 rfl (sz24 0) ⟨rfl, hw⟩)
        · exact fun w9 hw => gw rfl (g_call 17 _ _ [.int .i64 (-4)] (kf17 _ _) rfl (mono_val hw (of_any (-4) w9 (by unfold In64; omega))))
        · exact fun w9 hw => gw rfl (g_eql24 _ _ (-4) (-4) true rfl rfl (decide_eq_true rfl) ⟨rfl, hw⟩)
        · exact fun w9 hw => gw rfl (g_pickt _ _ _ _ rfl rfl ⟨rfl, hw⟩)
        · exact fun w9 hw => gw rfl (g_move _ _ rfl ⟨rfl, hw⟩)
        · exact fun w9 hw => gw rfl (g_move _ _ rfl ⟨rfl, hw⟩)
        · exact fun w9 hw => gw rfl (g_ieq 2 _ _ .i64 _ _ true rfl rfl (by decide) ⟨rfl, hw⟩)
        · exact fun w9 hw => gw rfl (g_pickt _ _ _ _ rfl rfl ⟨rfl, hw⟩)
        · exact fun w9 hw => gw rfl (g_move _ _ rfl ⟨rfl, hw⟩)
        · exact fun w9 hw => gw rfl (g_move _ _ rfl ⟨rfl, hw⟩)
        · exact fun w9 hw => gw rfl (g_ieq 26 _ _ .i64 _ _ true rfl rfl (by decide) ⟨rfl, hw⟩)
        · exact fun w9 hw => gw rfl (g_pickt _ _ _ _ rfl rfl ⟨rfl, hw⟩)
        · exact fun w9 hw => gw rfl (g_move _ _ rfl ⟨rfl, hw⟩)
        · exact fun w9 hw => gw rfl (g_move _ _ rfl ⟨rfl, hw⟩)
        · exact fun w9 hw => gw rfl (g_ieq 2 _ _ .i64 _ _ true rfl rfl (by decide) ⟨rfl, hw⟩)
        · exact fun w9 hw => gw rfl (g_pickt _ _ _ _ rfl rfl ⟨rfl, hw⟩)
        · exact fun w9 hw => gw rfl (g_move _ _ rfl ⟨rfl, hw⟩)
        · exact fun w9 hw => gw rfl (g_move _ _ rfl ⟨rfl, hw⟩)
        · exact fun w9 hw => gw rfl (g_ieq 26 _ _ .i64 _ _ true rfl rfl (by decide) ⟨rfl, hw⟩)
        · exact fun w9 hw => gw rfl (g_pickt _ _ _ _ rfl rfl ⟨rfl, hw⟩)
        · exact fun w9 hw => gw rfl (g_move _ _ rfl ⟨rfl, hw⟩)
        · exact fun w9 hw => gw rfl (g_move _ _ rfl ⟨rfl, hw⟩)
        · exact fun w9 hw => gw rfl (g_ieq 26 _ _ .i64 _ _ true rfl rfl (by decide) ⟨rfl, hw⟩)
        · exact fun w9 hw => gw rfl (g_pickt _ _ _ _ rfl rfl ⟨rfl, hw⟩)
        · exact fun w9 hw => gw rfl (g_move _ _ rfl ⟨rfl, hw⟩)
        · exact fun w9 hw => gw rfl (g_move _ _ rfl ⟨rfl, hw⟩)
        · exact fun w9 hw => gw rfl (g_ieq 26 _ _ .i64 _ _ true rfl rfl (by decide) ⟨rfl, hw⟩)
        · exact fun w9 hw => gw rfl (g_pickt _ _ _ _ rfl rfl ⟨rfl, hw⟩)
        · exact fun w9 hw => gw rfl (g_move _ _ rfl ⟨rfl, hw⟩)
        · exact fun w9 hw => gw rfl (g_move _ _ rfl ⟨rfl, hw⟩)
        · exact fun w9 hw => gw rfl (g_ieq 26 _ _ .i64 _ _ true rfl rfl (by decide) ⟨rfl, hw⟩)
        · exact fun w9 hw => gw rfl (g_pickt _ _ _ _ rfl rfl ⟨rfl, hw⟩)
        · exact fun w9 hw => gw rfl (g_move _ _ rfl ⟨rfl, hw⟩)
        · exact fun w9 hw => gw rfl (g_load_all 24 _ (p2_6) _ 24 _ rfl (b_s.below hw b_s.lt) Try.underlying24 rfl (sz24 0) ⟨rfl, hw⟩)
        · exact fun w9 hw => gw rfl (g_build0 ⟨rfl, hw⟩)
        · exact fun w9 hw => gw rfl (g_eql24 _ _ (0) (0) true rfl rfl (decide_eq_true rfl) ⟨rfl, hw⟩)
        · exact fun w9 hw => gw rfl (g_pickt _ _ _ _ rfl rfl ⟨rfl, hw⟩)
        · exact fun w9 hw => gw rfl (g_move _ _ rfl ⟨rfl, hw⟩)
        · exact fun w9 hw => gw rfl (g_move _ _ rfl ⟨rfl, hw⟩)
        · exact fun w9 hw => gw rfl (g_ieq 26 _ _ .i64 _ _ true rfl rfl (by decide) ⟨rfl, hw⟩)
        · exact fun w9 hw => gw rfl (g_pickt _ _ _ _ rfl rfl ⟨rfl, hw⟩)
        · exact fun w9 hw => gw rfl (g_move _ _ rfl ⟨rfl, hw⟩)
        · exact fun w9 hw => gw rfl (g_move _ _ rfl ⟨rfl, hw⟩)
        · exact fun w9 hw => gw rfl (g_ieq 2 _ _ .i64 _ _ true rfl rfl (by decide) ⟨rfl, hw⟩)
        · exact fun w9 hw => gw rfl (g_pickt _ _ _ _ rfl rfl ⟨rfl, hw⟩)
        · exact fun w9 hw => gw rfl (g_move _ _ rfl ⟨rfl, hw⟩)
        · exact fun w9 hw => gw rfl (g_move _ _ rfl ⟨rfl, hw⟩)
        · exact fun w9 hw => gw rfl (g_ieq 26 _ _ .i64 _ _ true rfl rfl (by decide) ⟨rfl, hw⟩)
        · exact fun w9 hw => gw rfl (g_pickt _ _ _ _ rfl rfl ⟨rfl, hw⟩)
        · exact fun w9 hw => gw rfl (g_move _ _ rfl ⟨rfl, hw⟩)
        · exact fun w9 hw => gw rfl (g_move _ _ rfl ⟨rfl, hw⟩)
        · exact fun w9 hw => gw rfl (g_ieq 26 _ _ .i64 _ _ true rfl rfl (by decide) ⟨rfl, hw⟩)
        · exact fun w9 hw => gw rfl (g_pickt _ _ _ _ rfl rfl ⟨rfl, hw⟩)
        · exact fun w9 hw => gw rfl (g_move _ _ rfl ⟨rfl, hw⟩)
        · exact fun w9 hw => gw rfl (g_load_all 24 _ (w1.heap.size) _ 24 _ rfl (b_p.below hw b_p.lt) Try.underlying24 rfl (sz24 0) ⟨rfl, hw⟩)
        · exact fun w9 hw => gw rfl (g_load_all 24 _ (w4.heap.size) _ 24 _ rfl (b_q.below hw b_q.lt) Try.underlying24 rfl (sz24 0) ⟨rfl, hw⟩)
        · exact fun w9 hw => gw rfl (g_call 21 _ _ [.agg (nl (-15)).toArray, .agg (nl (-4)).toArray] (kf21 _ _) rfl (mono_val hw (cmp_any (-15) (-4) w9 (-1) (by show _ = _; decide))))
        · exact fun w9 hw => gw rfl (g_ieq 3 _ _ .i64 _ _ true rfl rfl (by decide) ⟨rfl, hw⟩)
        · exact fun w9 hw => gw rfl (g_pickt _ _ _ _ rfl rfl ⟨rfl, hw⟩)
        · exact fun w9 hw => gw rfl (g_move _ _ rfl ⟨rfl, hw⟩)
        · exact fun w9 hw => gw rfl (g_load_all 24 _ (w4.heap.size) _ 24 _ rfl (b_q.below hw b_q.lt) Try.underlying24 rfl (sz24 0) ⟨rfl, hw⟩)
        · exact fun w9 hw => gw rfl (g_load_all 24 _ (w4.heap.size) _ 24 _ rfl (b_q.below hw b_q.lt) Try.underlying24 rfl (sz24 0) ⟨rfl, hw⟩)
        · exact fun w9 hw => gw rfl (g_call 21 _ _ [.agg (nl (-4)).toArray, .agg (nl (-4)).toArray] (kf21 _ _) rfl (mono_val hw (cmp_any (-4) (-4) w9 0 (by show _ = _; decide))))
        · exact fun w9 hw => gw rfl (g_ieq 3 _ _ .i64 _ _ true rfl rfl (by decide) ⟨rfl, hw⟩)
        · exact fun w9 hw => gw rfl (g_pickt _ _ _ _ rfl rfl ⟨rfl, hw⟩)
        · exact fun w9 hw => gw rfl (g_move _ _ rfl ⟨rfl, hw⟩)
        · exact fun w9 hw => gw rfl (g_call 17 _ _ [.int .i64 (-1)] (kf17 _ _) rfl (mono_val hw (of_any (-1) w9 (by unfold In64; omega))))
        · exact fun w9 hw => gw rfl (g_build2 _ _ (-1) (18446744073709551615) (-1) rfl rfl rfl ⟨rfl, hw⟩)
        · exact fun w9 hw => gw rfl (g_eql24 _ _ (-1) (-1) true rfl rfl (decide_eq_true rfl) ⟨rfl, hw⟩)
        · exact fun w9 hw => gw rfl (g_pickt _ _ _ _ rfl rfl ⟨rfl, hw⟩)
        · exact fun w9 hw => gw rfl (g_assign _ _ rfl ⟨rfl, hw⟩)
      simp only [fullL, Act.put, List.setIfInBounds_toArray, List.set_cons_succ, List.set_cons_zero]
      intro w17 hw
      replace b_p := b_p.below hw b_p.lt
      replace b_q := b_q.below hw b_q.lt
      replace b_top := b_top.below hw b_top.lt
      replace b_u := b_u.below hw b_u.lt
      replace b_s := b_s.below hw b_s.lt
      replace hB := hB.trans (hw.mono hB.size)
      clear hw
      go_wp2_with fail
      go_ret
      exact ⟨rfl, hB⟩

end Go.Proofs.Ytkgcnbmnhbmdiaa
