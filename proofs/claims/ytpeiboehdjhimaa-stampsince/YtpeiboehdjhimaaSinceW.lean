/- StampSince: the walk. -/
import Derived.Test.YtpeiboehdjhimaaStG
namespace Go.Proofs.Ytpeiboehdjhimaa.stampSince
open Go Go.RowKit
set_option linter.unusedVariables false

set_option maxRecDepth 10000 in
set_option maxHeartbeats 4000000 in
theorem walk1 (m : Int) (a : Int) (b : Int) (w_m : In128 m) (w_a : In64 a) (w_b : In64 b) (w : World) (A B : Int) (e1 : a.tmod 2305843009213693952 = A) (e2 : b.tmod 2305843009213693952 = B) (jA : In64 A) (jB : In64 B) (iA : In128 A) (iB : In128 B) (hoA : ¬ In128 (m + A)) (i0 : In128 0) (i0B : In128 (0 + B)) :
    Calls Try.prog 10 #[.agg (nl m).toArray, .int .i64 a, .int .i64 b] w fun e w' => e = .returned (.bool true) ∧ Below w.heap.size w w' := by
  go_enter Try.func10, Try.ntmps10
  go_wp2_with (first
    | ((with_reducible refine at_boxD 3 25 ?_); refine L_box 25 _ (nl (m)) rfl ?_; intro w1 t_ b_m; have l_m : w.heap.size ≤ w.heap.size := Nat.le_refl _; have hB : Below w.heap.size w w1 := t_.below (Below.refl _ _) (Nat.le_refl _); clear t_))
  refine (awake_any w1).mono ?_
  rintro e w2 ⟨rfl, t_⟩
  replace b_m := b_m.below t_ b_m.lt
  replace hB := hB.trans (t_.mono hB.size)
  clear t_
  go_wp2_with (first
    | ((with_reducible refine stop_region 4 ?_); intro X1 hX1))
  refine hX1.out ?_
  clear hX1
  refine wp_region_inv (by kernel_rfl) (by kernel_rfl) (fun t v wx => Below (w2.heap.size) w2 wx ∧ w2.heap.size ≤ wx.heap.size ∧ (t 0 = true → v 0 = .agg (nl (m)).toArray) ∧ (t 1 = true → v 1 = .int .i64 (A)) ∧ (t 2 = true → v 2 = .agg (nl (A)).toArray) ∧ (t 3 = true → v 3 = .tuple #[.agg (nl (0)).toArray, .int .i64 (6)]) ∧ (t 4 = true → v 4 = .tuple #[.agg (nl (0)).toArray, .int .i64 (6)]) ∧ (t 5 = true → v 5 = .agg (nl (0)).toArray) ∧ (t 6 = true → v 6 = .int .i64 (6)) ∧ (t 7 = true → ∃ p, v 7 = .pointer (some ⟨p, 0, none⟩) ∧ w2.heap.size ≤ p ∧ p < wx.heap.size ∧ (t 8 = false → Blk wx p (nl (0)) 25) ∧ (t 8 = true → Blk wx p (nl (0)) 25)) ∧ (t 8 = true → t 7 = true) ∧ (t 9 = true → v 9 = .int .i64 (6))) ?_ ?_ ?_
  · exact ⟨(Below.refl _ _).drew, Nat.le_refl _, (fun h => by cases h), (fun h => by cases h), (fun h => by cases h), (fun h => by cases h), (fun h => by cases h), (fun h => by cases h), (fun h => by cases h), (fun h => by cases h), (fun h => by cases h), (fun h => by cases h)⟩
  · simp only [full, Act.put, List.setIfInBounds_toArray, List.set_cons_succ, List.set_cons_zero, Nat.zero_add, Nat.reduceAdd]
    intro i o ho t v wx hS hti hall
    obtain ⟨hB8, hsz, k0, k1, k2, k3, k4, k5, k6, k7, k8, k9⟩ := hS
    have hnw : w2.heap.size ≤ wx.heap.size := Nat.le_trans (by omega) hsz
    rcases i with _ | _ | _ | _ | _ | _ | _ | _ | _ | _ | i
    · obtain rfl := Option.some.inj ho
      refine g_load_all 25 _ (w.heap.size) (nl (m)) 25 _ rfl (b_m.below hB8 b_m.lt) Try.underlying25 rfl (szN 0) ?_
      exact ⟨hB8, hsz, newE rfl, keepE (by decide) k1, keepE (by decide) k2, keepE (by decide) k3, keepE (by decide) k4, keepE (by decide) k5, keepE (by decide) k6, k7, k8, keepE (by decide) k9⟩
    · obtain rfl := Option.some.inj ho
      refine g_move _ _ rfl ?_
      exact ⟨hB8, hsz, keepE (by decide) k0, newE rfl, keepE (by decide) k2, keepE (by decide) k3, keepE (by decide) k4, keepE (by decide) k5, keepE (by decide) k6, k7, k8, keepE (by decide) k9⟩
    · obtain rfl := Option.some.inj ho
      have d1 := k1 (hall ⟨1, .data⟩ (by simp) rfl)
      refine g_call 31 _ _ [.int .i64 (A)] (kf31 _ _) (by show ([v 1] : List Value) = _; rw [d1]; (try rfl)) ((of_any A wx jA).mono ?_)
      rintro e w' ⟨rfl, hb⟩
      exact ⟨_, rfl, hB8.trans (hb.mono hnw), Nat.le_trans hsz hb.size, keepE (by decide) k0, keepE (by decide) k1, newE rfl, keepE (by decide) k3, keepE (by decide) k4, keepE (by decide) k5, keepE (by decide) k6, (fun ht => by obtain ⟨p, e1, e2, e5, e3, e4⟩ := k7 ht; exact ⟨p, e1, e2, Nat.lt_of_lt_of_le e5 hb.size, fun h7 => (e3 h7).below hb e5, fun h7 => (e4 h7).below hb e5⟩), k8, keepE (by decide) k9⟩
    · obtain rfl := Option.some.inj ho
      have d0 := k0 (hall ⟨0, .data⟩ (by simp) rfl)
      have d2 := k2 (hall ⟨2, .data⟩ (by simp) rfl)
      refine g_call 30 _ _ [.agg (nl (m)).toArray, .agg (nl (A)).toArray] (kf30 _ _) (by show ([v 0, v 2] : List Value) = _; rw [d0, d2]; (try rfl)) ((add_over m A wx w_m iA hoA).mono ?_)
      rintro e w' ⟨rfl, hb⟩
      exact ⟨_, rfl, hB8.trans (hb.mono hnw), Nat.le_trans hsz hb.size, keepE (by decide) k0, keepE (by decide) k1, keepE (by decide) k2, newE rfl, keepE (by decide) k4, keepE (by decide) k5, keepE (by decide) k6, (fun ht => by obtain ⟨p, e1, e2, e5, e3, e4⟩ := k7 ht; exact ⟨p, e1, e2, Nat.lt_of_lt_of_le e5 hb.size, fun h7 => (e3 h7).below hb e5, fun h7 => (e4 h7).below hb e5⟩), k8, keepE (by decide) k9⟩
    · obtain rfl := Option.some.inj ho
      have d3 := k3 (hall ⟨3, .data⟩ (by simp) rfl)
      refine g_move _ _ (show v 3 = _ from d3) ?_
      exact ⟨hB8, hsz, keepE (by decide) k0, keepE (by decide) k1, keepE (by decide) k2, keepE (by decide) k3, newE rfl, keepE (by decide) k5, keepE (by decide) k6, k7, k8, keepE (by decide) k9⟩
    · obtain rfl := Option.some.inj ho
      have d4 := k4 (hall ⟨4, .data⟩ (by simp) rfl)
      refine g_extract _ _ 0 _ (show v 4 = _ from d4) rfl ?_
      exact ⟨hB8, hsz, keepE (by decide) k0, keepE (by decide) k1, keepE (by decide) k2, keepE (by decide) k3, keepE (by decide) k4, newE rfl, keepE (by decide) k6, k7, k8, keepE (by decide) k9⟩
    · obtain rfl := Option.some.inj ho
      have d4 := k4 (hall ⟨4, .data⟩ (by simp) rfl)
      refine g_extract _ _ 1 _ (show v 4 = _ from d4) rfl ?_
      exact ⟨hB8, hsz, keepE (by decide) k0, keepE (by decide) k1, keepE (by decide) k2, keepE (by decide) k3, keepE (by decide) k4, keepE (by decide) k5, newE rfl, k7, k8, keepE (by decide) k9⟩
    · obtain rfl := Option.some.inj ho
      refine g_alloc 25 _ zeroN (fun w' h1 h2 => ?_)
      exact ⟨h1.below hB8 hnw, Nat.le_trans hsz h1.size, keepE (by decide) k0, keepE (by decide) k1, keepE (by decide) k2, keepE (by decide) k3, keepE (by decide) k4, keepE (by decide) k5, keepE (by decide) k6, (fun ht => ⟨wx.heap.size, setV_self _ _ _, hsz, h2.lt, fun _ => h2, fun h7 => by have h6 := k8 h7; rw [hti] at h6; cases h6⟩), (fun _ => setB_self _ _), keepE (by decide) k9⟩
    · obtain rfl := Option.some.inj ho
      have ht6 := hall ⟨7, .data⟩ (by simp) rfl
      have d5 := k5 (hall ⟨5, .data⟩ (by simp) rfl)
      obtain ⟨p, e1, e2, e5, e3, e4⟩ := k7 ht6
      refine g_store_all 25 _ _ p (nl (0)) _ 25 (show v 7 = _ from e1) (show v 5 = _ from d5) (e3 hti) (szN 0) (rfl) (one_nl _) (fun w' h1 h2 => ?_)
      exact ⟨h1.below hB8 (by omega), Nat.le_trans hsz h1.size, keepE (by decide) k0, keepE (by decide) k1, keepE (by decide) k2, keepE (by decide) k3, keepE (by decide) k4, keepE (by decide) k5, keepE (by decide) k6, (fun ht => ⟨p, e1, e2, Nat.lt_of_lt_of_le e5 h1.size, (fun h7 => by have h8 := setB_self t 8; rw [h7] at h8; cases h8), fun _ => h2⟩), (fun _ => ht6), keepE (by decide) k9⟩
    · obtain rfl := Option.some.inj ho
      have d6 := k6 (hall ⟨6, .data⟩ (by simp) rfl)
      refine g_assign _ _ (show v 6 = _ from d6) ?_
      exact ⟨hB8, hsz, keepE (by decide) k0, keepE (by decide) k1, keepE (by decide) k2, keepE (by decide) k3, keepE (by decide) k4, keepE (by decide) k5, keepE (by decide) k6, k7, k8, newE rfl⟩
    · simp at ho
  · simp only [full, Act.put, List.setIfInBounds_toArray, List.set_cons_succ, List.set_cons_zero, Nat.zero_add, Nat.reduceAdd]
    intro t v w3 hS ht
    obtain ⟨hB8, hsz, k0, k1, k2, k3, k4, k5, k6, k7, k8, k9⟩ := hS
    obtain ⟨p1_7, e7, g7, -, -, f7⟩ := k7 (ht 7 (by decide)); replace f7 := f7 (ht 8 (by decide))
    rw [e7]
    have d0 := k0 (ht 0 (by decide)); (try rw [d0])
    have d1 := k1 (ht 1 (by decide)); (try rw [d1])
    have d2 := k2 (ht 2 (by decide)); (try rw [d2])
    have d3 := k3 (ht 3 (by decide)); (try rw [d3])
    have d4 := k4 (ht 4 (by decide)); (try rw [d4])
    have d5 := k5 (ht 5 (by decide)); (try rw [d5])
    have d6 := k6 (ht 6 (by decide)); (try rw [d6])
    have d9 := k9 (ht 9 (by decide)); (try rw [d9])
    clear d0 d1 d2 d3 d4 d5 d6 d9
    clear ht k0 k1 k2 k3 k4 k5 k6 k7 k8 k9 e7 
    generalize v 8 = x8
    have b_x := f7
    clear f7
    have o_x : w.heap.size < p1_7 := Nat.lt_of_lt_of_le b_m.lt g7
    have l_x : w.heap.size ≤ p1_7 := Nat.le_trans hB.size g7
    clear g7
    replace b_m := b_m.below hB8 b_m.lt
    replace hB := hB.trans (hB8.mono hB.size)
    clear hB8
    clear hsz
    go_wp2_with (first
      | ((with_reducible refine stop_region 5 ?_); intro X2 hX2))
    refine hX2.out ?_
    clear hX2
    refine wp_region_inv (by kernel_rfl) (by kernel_rfl) (fun t v wx => Below (w3.heap.size) w3 wx ∧ w3.heap.size ≤ wx.heap.size ∧ (t 0 = true → v 0 = .agg (nl (0)).toArray) ∧ (t 1 = true → v 1 = .int .i64 (B)) ∧ (t 2 = true → v 2 = .agg (nl (B)).toArray) ∧ (t 3 = true → v 3 = .tuple #[.agg (nl (0 + B)).toArray, .int .i64 (0)]) ∧ (t 4 = true → v 4 = .tuple #[.agg (nl (0 + B)).toArray, .int .i64 (0)]) ∧ (t 5 = true → v 5 = .agg (nl (0 + B)).toArray) ∧ (t 6 = true → v 6 = .int .i64 (0)) ∧ (t 7 = true → ∃ p, v 7 = .pointer (some ⟨p, 0, none⟩) ∧ w3.heap.size ≤ p ∧ p < wx.heap.size ∧ (t 8 = false → Blk wx p (nl (0)) 25) ∧ (t 8 = true → Blk wx p (nl (0 + B)) 25)) ∧ (t 8 = true → t 7 = true) ∧ (t 9 = true → v 9 = .int .i64 (0))) ?_ ?_ ?_
    · exact ⟨(Below.refl _ _).drew, Nat.le_refl _, (fun h => by cases h), (fun h => by cases h), (fun h => by cases h), (fun h => by cases h), (fun h => by cases h), (fun h => by cases h), (fun h => by cases h), (fun h => by cases h), (fun h => by cases h), (fun h => by cases h)⟩
    · simp only [full, Act.put, List.setIfInBounds_toArray, List.set_cons_succ, List.set_cons_zero, Nat.zero_add, Nat.reduceAdd]
      intro i o ho t v wx hS hti hall
      obtain ⟨hB8, hsz, k0, k1, k2, k3, k4, k5, k6, k7, k8, k9⟩ := hS
      have hnw : w3.heap.size ≤ wx.heap.size := Nat.le_trans (by omega) hsz
      rcases i with _ | _ | _ | _ | _ | _ | _ | _ | _ | _ | i
      · obtain rfl := Option.some.inj ho
        refine g_load_all 25 _ (p1_7) (nl (0)) 25 _ rfl (b_x.below hB8 b_x.lt) Try.underlying25 rfl (szN 0) ?_
        exact ⟨hB8, hsz, newE rfl, keepE (by decide) k1, keepE (by decide) k2, keepE (by decide) k3, keepE (by decide) k4, keepE (by decide) k5, keepE (by decide) k6, k7, k8, keepE (by decide) k9⟩
      · obtain rfl := Option.some.inj ho
        refine g_move _ _ rfl ?_
        exact ⟨hB8, hsz, keepE (by decide) k0, newE rfl, keepE (by decide) k2, keepE (by decide) k3, keepE (by decide) k4, keepE (by decide) k5, keepE (by decide) k6, k7, k8, keepE (by decide) k9⟩
      · obtain rfl := Option.some.inj ho
        have d1 := k1 (hall ⟨1, .data⟩ (by simp) rfl)
        refine g_call 31 _ _ [.int .i64 (B)] (kf31 _ _) (by show ([v 1] : List Value) = _; rw [d1]; (try rfl)) ((of_any B wx jB).mono ?_)
        rintro e w' ⟨rfl, hb⟩
        exact ⟨_, rfl, hB8.trans (hb.mono hnw), Nat.le_trans hsz hb.size, keepE (by decide) k0, keepE (by decide) k1, newE rfl, keepE (by decide) k3, keepE (by decide) k4, keepE (by decide) k5, keepE (by decide) k6, (fun ht => by obtain ⟨p, e1, e2, e5, e3, e4⟩ := k7 ht; exact ⟨p, e1, e2, Nat.lt_of_lt_of_le e5 hb.size, fun h7 => (e3 h7).below hb e5, fun h7 => (e4 h7).below hb e5⟩), k8, keepE (by decide) k9⟩
      · obtain rfl := Option.some.inj ho
        have d0 := k0 (hall ⟨0, .data⟩ (by simp) rfl)
        have d2 := k2 (hall ⟨2, .data⟩ (by simp) rfl)
        refine g_call 30 _ _ [.agg (nl (0)).toArray, .agg (nl (B)).toArray] (kf30 _ _) (by show ([v 0, v 2] : List Value) = _; rw [d0, d2]; (try rfl)) ((add_ok 0 B wx i0 iB i0B).mono ?_)
        rintro e w' ⟨rfl, hb⟩
        exact ⟨_, rfl, hB8.trans (hb.mono hnw), Nat.le_trans hsz hb.size, keepE (by decide) k0, keepE (by decide) k1, keepE (by decide) k2, newE rfl, keepE (by decide) k4, keepE (by decide) k5, keepE (by decide) k6, (fun ht => by obtain ⟨p, e1, e2, e5, e3, e4⟩ := k7 ht; exact ⟨p, e1, e2, Nat.lt_of_lt_of_le e5 hb.size, fun h7 => (e3 h7).below hb e5, fun h7 => (e4 h7).below hb e5⟩), k8, keepE (by decide) k9⟩
      · obtain rfl := Option.some.inj ho
        have d3 := k3 (hall ⟨3, .data⟩ (by simp) rfl)
        refine g_move _ _ (show v 3 = _ from d3) ?_
        exact ⟨hB8, hsz, keepE (by decide) k0, keepE (by decide) k1, keepE (by decide) k2, keepE (by decide) k3, newE rfl, keepE (by decide) k5, keepE (by decide) k6, k7, k8, keepE (by decide) k9⟩
      · obtain rfl := Option.some.inj ho
        have d4 := k4 (hall ⟨4, .data⟩ (by simp) rfl)
        refine g_extract _ _ 0 _ (show v 4 = _ from d4) rfl ?_
        exact ⟨hB8, hsz, keepE (by decide) k0, keepE (by decide) k1, keepE (by decide) k2, keepE (by decide) k3, keepE (by decide) k4, newE rfl, keepE (by decide) k6, k7, k8, keepE (by decide) k9⟩
      · obtain rfl := Option.some.inj ho
        have d4 := k4 (hall ⟨4, .data⟩ (by simp) rfl)
        refine g_extract _ _ 1 _ (show v 4 = _ from d4) rfl ?_
        exact ⟨hB8, hsz, keepE (by decide) k0, keepE (by decide) k1, keepE (by decide) k2, keepE (by decide) k3, keepE (by decide) k4, keepE (by decide) k5, newE rfl, k7, k8, keepE (by decide) k9⟩
      · obtain rfl := Option.some.inj ho
        refine g_alloc 25 _ zeroN (fun w' h1 h2 => ?_)
        exact ⟨h1.below hB8 hnw, Nat.le_trans hsz h1.size, keepE (by decide) k0, keepE (by decide) k1, keepE (by decide) k2, keepE (by decide) k3, keepE (by decide) k4, keepE (by decide) k5, keepE (by decide) k6, (fun ht => ⟨wx.heap.size, setV_self _ _ _, hsz, h2.lt, fun _ => h2, fun h7 => by have h6 := k8 h7; rw [hti] at h6; cases h6⟩), (fun _ => setB_self _ _), keepE (by decide) k9⟩
      · obtain rfl := Option.some.inj ho
        have ht6 := hall ⟨7, .data⟩ (by simp) rfl
        have d5 := k5 (hall ⟨5, .data⟩ (by simp) rfl)
        obtain ⟨p, e1, e2, e5, e3, e4⟩ := k7 ht6
        refine g_store_all 25 _ _ p (nl (0 + B)) _ 25 (show v 7 = _ from e1) (show v 5 = _ from d5) (e3 hti) (szN 0) (rfl) (one_nl _) (fun w' h1 h2 => ?_)
        exact ⟨h1.below hB8 (by omega), Nat.le_trans hsz h1.size, keepE (by decide) k0, keepE (by decide) k1, keepE (by decide) k2, keepE (by decide) k3, keepE (by decide) k4, keepE (by decide) k5, keepE (by decide) k6, (fun ht => ⟨p, e1, e2, Nat.lt_of_lt_of_le e5 h1.size, (fun h7 => by have h8 := setB_self t 8; rw [h7] at h8; cases h8), fun _ => h2⟩), (fun _ => ht6), keepE (by decide) k9⟩
      · obtain rfl := Option.some.inj ho
        have d6 := k6 (hall ⟨6, .data⟩ (by simp) rfl)
        refine g_assign _ _ (show v 6 = _ from d6) ?_
        exact ⟨hB8, hsz, keepE (by decide) k0, keepE (by decide) k1, keepE (by decide) k2, keepE (by decide) k3, keepE (by decide) k4, keepE (by decide) k5, keepE (by decide) k6, k7, k8, newE rfl⟩
      · simp at ho
    · simp only [full, Act.put, List.setIfInBounds_toArray, List.set_cons_succ, List.set_cons_zero, Nat.zero_add, Nat.reduceAdd]
      intro t v w4 hS ht
      obtain ⟨hB8, hsz, k0, k1, k2, k3, k4, k5, k6, k7, k8, k9⟩ := hS
      obtain ⟨p2_7, e7, g7, -, -, f7⟩ := k7 (ht 7 (by decide)); replace f7 := f7 (ht 8 (by decide))
      rw [e7]
      have d0 := k0 (ht 0 (by decide)); (try rw [d0])
      have d1 := k1 (ht 1 (by decide)); (try rw [d1])
      have d2 := k2 (ht 2 (by decide)); (try rw [d2])
      have d3 := k3 (ht 3 (by decide)); (try rw [d3])
      have d4 := k4 (ht 4 (by decide)); (try rw [d4])
      have d5 := k5 (ht 5 (by decide)); (try rw [d5])
      have d6 := k6 (ht 6 (by decide)); (try rw [d6])
      have d9 := k9 (ht 9 (by decide)); (try rw [d9])
      clear d0 d1 d2 d3 d4 d5 d6 d9
      clear ht k0 k1 k2 k3 k4 k5 k6 k7 k8 k9 e7 
      generalize v 8 = x8
      have b_y := f7
      clear f7
      have o_y : p1_7 < p2_7 := Nat.lt_of_lt_of_le b_x.lt g7
      have l_y : w.heap.size ≤ p2_7 := Nat.le_trans hB.size g7
      clear g7
      replace b_m := b_m.below hB8 b_m.lt
      replace b_x := b_x.below hB8 b_x.lt
      replace hB := hB.trans (hB8.mono hB.size)
      clear hB8
      clear hsz
      go_wp2_with fail
      go_ret
      exact ⟨rfl, hB⟩

set_option maxRecDepth 10000 in
set_option maxHeartbeats 4000000 in
theorem walk2 (m : Int) (a : Int) (b : Int) (w_m : In128 m) (w_a : In64 a) (w_b : In64 b) (w : World) (A B : Int) (e1 : a.tmod 2305843009213693952 = A) (e2 : b.tmod 2305843009213693952 = B) (jA : In64 A) (jB : In64 B) (iA : In128 A) (iB : In128 B) (X : Int) (iX : In128 X) (hX : Hid (m + A = X)) (hoB : ¬ In128 (X + B)) :
    Calls Try.prog 10 #[.agg (nl m).toArray, .int .i64 a, .int .i64 b] w fun e w' => e = .returned (.bool true) ∧ Below w.heap.size w w' := by
  go_enter Try.func10, Try.ntmps10
  go_wp2_with (first
    | ((with_reducible refine at_boxD 3 25 ?_); refine L_box 25 _ (nl (m)) rfl ?_; intro w1 t_ b_m; have l_m : w.heap.size ≤ w.heap.size := Nat.le_refl _; have hB : Below w.heap.size w w1 := t_.below (Below.refl _ _) (Nat.le_refl _); clear t_))
  refine (awake_any w1).mono ?_
  rintro e w2 ⟨rfl, t_⟩
  replace b_m := b_m.below t_ b_m.lt
  replace hB := hB.trans (t_.mono hB.size)
  clear t_
  go_wp2_with (first
    | ((with_reducible refine stop_region 4 ?_); intro X1 hX1))
  refine hX1.out ?_
  clear hX1
  refine wp_region_inv (by kernel_rfl) (by kernel_rfl) (fun t v wx => Below (w2.heap.size) w2 wx ∧ w2.heap.size ≤ wx.heap.size ∧ (t 0 = true → v 0 = .agg (nl (m)).toArray) ∧ (t 1 = true → v 1 = .int .i64 (A)) ∧ (t 2 = true → v 2 = .agg (nl (A)).toArray) ∧ (t 3 = true → v 3 = .tuple #[.agg (nl (X)).toArray, .int .i64 (0)]) ∧ (t 4 = true → v 4 = .tuple #[.agg (nl (X)).toArray, .int .i64 (0)]) ∧ (t 5 = true → v 5 = .agg (nl (X)).toArray) ∧ (t 6 = true → v 6 = .int .i64 (0)) ∧ (t 7 = true → ∃ p, v 7 = .pointer (some ⟨p, 0, none⟩) ∧ w2.heap.size ≤ p ∧ p < wx.heap.size ∧ (t 8 = false → Blk wx p (nl (0)) 25) ∧ (t 8 = true → Blk wx p (nl (X)) 25)) ∧ (t 8 = true → t 7 = true) ∧ (t 9 = true → v 9 = .int .i64 (0))) ?_ ?_ ?_
  · exact ⟨(Below.refl _ _).drew, Nat.le_refl _, (fun h => by cases h), (fun h => by cases h), (fun h => by cases h), (fun h => by cases h), (fun h => by cases h), (fun h => by cases h), (fun h => by cases h), (fun h => by cases h), (fun h => by cases h), (fun h => by cases h)⟩
  · simp only [full, Act.put, List.setIfInBounds_toArray, List.set_cons_succ, List.set_cons_zero, Nat.zero_add, Nat.reduceAdd]
    intro i o ho t v wx hS hti hall
    obtain ⟨hB8, hsz, k0, k1, k2, k3, k4, k5, k6, k7, k8, k9⟩ := hS
    have hnw : w2.heap.size ≤ wx.heap.size := Nat.le_trans (by omega) hsz
    rcases i with _ | _ | _ | _ | _ | _ | _ | _ | _ | _ | i
    · obtain rfl := Option.some.inj ho
      refine g_load_all 25 _ (w.heap.size) (nl (m)) 25 _ rfl (b_m.below hB8 b_m.lt) Try.underlying25 rfl (szN 0) ?_
      exact ⟨hB8, hsz, newE rfl, keepE (by decide) k1, keepE (by decide) k2, keepE (by decide) k3, keepE (by decide) k4, keepE (by decide) k5, keepE (by decide) k6, k7, k8, keepE (by decide) k9⟩
    · obtain rfl := Option.some.inj ho
      refine g_move _ _ rfl ?_
      exact ⟨hB8, hsz, keepE (by decide) k0, newE rfl, keepE (by decide) k2, keepE (by decide) k3, keepE (by decide) k4, keepE (by decide) k5, keepE (by decide) k6, k7, k8, keepE (by decide) k9⟩
    · obtain rfl := Option.some.inj ho
      have d1 := k1 (hall ⟨1, .data⟩ (by simp) rfl)
      refine g_call 31 _ _ [.int .i64 (A)] (kf31 _ _) (by show ([v 1] : List Value) = _; rw [d1]; (try rfl)) ((of_any A wx jA).mono ?_)
      rintro e w' ⟨rfl, hb⟩
      exact ⟨_, rfl, hB8.trans (hb.mono hnw), Nat.le_trans hsz hb.size, keepE (by decide) k0, keepE (by decide) k1, newE rfl, keepE (by decide) k3, keepE (by decide) k4, keepE (by decide) k5, keepE (by decide) k6, (fun ht => by obtain ⟨p, e1, e2, e5, e3, e4⟩ := k7 ht; exact ⟨p, e1, e2, Nat.lt_of_lt_of_le e5 hb.size, fun h7 => (e3 h7).below hb e5, fun h7 => (e4 h7).below hb e5⟩), k8, keepE (by decide) k9⟩
    · obtain rfl := Option.some.inj ho
      have d0 := k0 (hall ⟨0, .data⟩ (by simp) rfl)
      have d2 := k2 (hall ⟨2, .data⟩ (by simp) rfl)
      refine g_call 30 _ _ [.agg (nl (m)).toArray, .agg (nl (A)).toArray] (kf30 _ _) (by show ([v 0, v 2] : List Value) = _; rw [d0, d2]; (try rfl)) ((add_l m A X wx w_m iA iX hX).mono ?_)
      rintro e w' ⟨rfl, hb⟩
      exact ⟨_, rfl, hB8.trans (hb.mono hnw), Nat.le_trans hsz hb.size, keepE (by decide) k0, keepE (by decide) k1, keepE (by decide) k2, newE rfl, keepE (by decide) k4, keepE (by decide) k5, keepE (by decide) k6, (fun ht => by obtain ⟨p, e1, e2, e5, e3, e4⟩ := k7 ht; exact ⟨p, e1, e2, Nat.lt_of_lt_of_le e5 hb.size, fun h7 => (e3 h7).below hb e5, fun h7 => (e4 h7).below hb e5⟩), k8, keepE (by decide) k9⟩
    · obtain rfl := Option.some.inj ho
      have d3 := k3 (hall ⟨3, .data⟩ (by simp) rfl)
      refine g_move _ _ (show v 3 = _ from d3) ?_
      exact ⟨hB8, hsz, keepE (by decide) k0, keepE (by decide) k1, keepE (by decide) k2, keepE (by decide) k3, newE rfl, keepE (by decide) k5, keepE (by decide) k6, k7, k8, keepE (by decide) k9⟩
    · obtain rfl := Option.some.inj ho
      have d4 := k4 (hall ⟨4, .data⟩ (by simp) rfl)
      refine g_extract _ _ 0 _ (show v 4 = _ from d4) rfl ?_
      exact ⟨hB8, hsz, keepE (by decide) k0, keepE (by decide) k1, keepE (by decide) k2, keepE (by decide) k3, keepE (by decide) k4, newE rfl, keepE (by decide) k6, k7, k8, keepE (by decide) k9⟩
    · obtain rfl := Option.some.inj ho
      have d4 := k4 (hall ⟨4, .data⟩ (by simp) rfl)
      refine g_extract _ _ 1 _ (show v 4 = _ from d4) rfl ?_
      exact ⟨hB8, hsz, keepE (by decide) k0, keepE (by decide) k1, keepE (by decide) k2, keepE (by decide) k3, keepE (by decide) k4, keepE (by decide) k5, newE rfl, k7, k8, keepE (by decide) k9⟩
    · obtain rfl := Option.some.inj ho
      refine g_alloc 25 _ zeroN (fun w' h1 h2 => ?_)
      exact ⟨h1.below hB8 hnw, Nat.le_trans hsz h1.size, keepE (by decide) k0, keepE (by decide) k1, keepE (by decide) k2, keepE (by decide) k3, keepE (by decide) k4, keepE (by decide) k5, keepE (by decide) k6, (fun ht => ⟨wx.heap.size, setV_self _ _ _, hsz, h2.lt, fun _ => h2, fun h7 => by have h6 := k8 h7; rw [hti] at h6; cases h6⟩), (fun _ => setB_self _ _), keepE (by decide) k9⟩
    · obtain rfl := Option.some.inj ho
      have ht6 := hall ⟨7, .data⟩ (by simp) rfl
      have d5 := k5 (hall ⟨5, .data⟩ (by simp) rfl)
      obtain ⟨p, e1, e2, e5, e3, e4⟩ := k7 ht6
      refine g_store_all 25 _ _ p (nl (X)) _ 25 (show v 7 = _ from e1) (show v 5 = _ from d5) (e3 hti) (szN 0) (rfl) (one_nl _) (fun w' h1 h2 => ?_)
      exact ⟨h1.below hB8 (by omega), Nat.le_trans hsz h1.size, keepE (by decide) k0, keepE (by decide) k1, keepE (by decide) k2, keepE (by decide) k3, keepE (by decide) k4, keepE (by decide) k5, keepE (by decide) k6, (fun ht => ⟨p, e1, e2, Nat.lt_of_lt_of_le e5 h1.size, (fun h7 => by have h8 := setB_self t 8; rw [h7] at h8; cases h8), fun _ => h2⟩), (fun _ => ht6), keepE (by decide) k9⟩
    · obtain rfl := Option.some.inj ho
      have d6 := k6 (hall ⟨6, .data⟩ (by simp) rfl)
      refine g_assign _ _ (show v 6 = _ from d6) ?_
      exact ⟨hB8, hsz, keepE (by decide) k0, keepE (by decide) k1, keepE (by decide) k2, keepE (by decide) k3, keepE (by decide) k4, keepE (by decide) k5, keepE (by decide) k6, k7, k8, newE rfl⟩
    · simp at ho
  · simp only [full, Act.put, List.setIfInBounds_toArray, List.set_cons_succ, List.set_cons_zero, Nat.zero_add, Nat.reduceAdd]
    intro t v w3 hS ht
    obtain ⟨hB8, hsz, k0, k1, k2, k3, k4, k5, k6, k7, k8, k9⟩ := hS
    obtain ⟨p1_7, e7, g7, -, -, f7⟩ := k7 (ht 7 (by decide)); replace f7 := f7 (ht 8 (by decide))
    rw [e7]
    have d0 := k0 (ht 0 (by decide)); (try rw [d0])
    have d1 := k1 (ht 1 (by decide)); (try rw [d1])
    have d2 := k2 (ht 2 (by decide)); (try rw [d2])
    have d3 := k3 (ht 3 (by decide)); (try rw [d3])
    have d4 := k4 (ht 4 (by decide)); (try rw [d4])
    have d5 := k5 (ht 5 (by decide)); (try rw [d5])
    have d6 := k6 (ht 6 (by decide)); (try rw [d6])
    have d9 := k9 (ht 9 (by decide)); (try rw [d9])
    clear d0 d1 d2 d3 d4 d5 d6 d9
    clear ht k0 k1 k2 k3 k4 k5 k6 k7 k8 k9 e7 
    generalize v 8 = x8
    have b_x := f7
    clear f7
    have o_x : w.heap.size < p1_7 := Nat.lt_of_lt_of_le b_m.lt g7
    have l_x : w.heap.size ≤ p1_7 := Nat.le_trans hB.size g7
    clear g7
    replace b_m := b_m.below hB8 b_m.lt
    replace hB := hB.trans (hB8.mono hB.size)
    clear hB8
    clear hsz
    go_wp2_with (first
      | ((with_reducible refine stop_region 5 ?_); intro X2 hX2))
    refine hX2.out ?_
    clear hX2
    refine wp_region_inv (by kernel_rfl) (by kernel_rfl) (fun t v wx => Below (w3.heap.size) w3 wx ∧ w3.heap.size ≤ wx.heap.size ∧ (t 0 = true → v 0 = .agg (nl (X)).toArray) ∧ (t 1 = true → v 1 = .int .i64 (B)) ∧ (t 2 = true → v 2 = .agg (nl (B)).toArray) ∧ (t 3 = true → v 3 = .tuple #[.agg (nl (0)).toArray, .int .i64 (6)]) ∧ (t 4 = true → v 4 = .tuple #[.agg (nl (0)).toArray, .int .i64 (6)]) ∧ (t 5 = true → v 5 = .agg (nl (0)).toArray) ∧ (t 6 = true → v 6 = .int .i64 (6)) ∧ (t 7 = true → ∃ p, v 7 = .pointer (some ⟨p, 0, none⟩) ∧ w3.heap.size ≤ p ∧ p < wx.heap.size ∧ (t 8 = false → Blk wx p (nl (0)) 25) ∧ (t 8 = true → Blk wx p (nl (0)) 25)) ∧ (t 8 = true → t 7 = true) ∧ (t 9 = true → v 9 = .int .i64 (6))) ?_ ?_ ?_
    · exact ⟨(Below.refl _ _).drew, Nat.le_refl _, (fun h => by cases h), (fun h => by cases h), (fun h => by cases h), (fun h => by cases h), (fun h => by cases h), (fun h => by cases h), (fun h => by cases h), (fun h => by cases h), (fun h => by cases h), (fun h => by cases h)⟩
    · simp only [full, Act.put, List.setIfInBounds_toArray, List.set_cons_succ, List.set_cons_zero, Nat.zero_add, Nat.reduceAdd]
      intro i o ho t v wx hS hti hall
      obtain ⟨hB8, hsz, k0, k1, k2, k3, k4, k5, k6, k7, k8, k9⟩ := hS
      have hnw : w3.heap.size ≤ wx.heap.size := Nat.le_trans (by omega) hsz
      rcases i with _ | _ | _ | _ | _ | _ | _ | _ | _ | _ | i
      · obtain rfl := Option.some.inj ho
        refine g_load_all 25 _ (p1_7) (nl (X)) 25 _ rfl (b_x.below hB8 b_x.lt) Try.underlying25 rfl (szN 0) ?_
        exact ⟨hB8, hsz, newE rfl, keepE (by decide) k1, keepE (by decide) k2, keepE (by decide) k3, keepE (by decide) k4, keepE (by decide) k5, keepE (by decide) k6, k7, k8, keepE (by decide) k9⟩
      · obtain rfl := Option.some.inj ho
        refine g_move _ _ rfl ?_
        exact ⟨hB8, hsz, keepE (by decide) k0, newE rfl, keepE (by decide) k2, keepE (by decide) k3, keepE (by decide) k4, keepE (by decide) k5, keepE (by decide) k6, k7, k8, keepE (by decide) k9⟩
      · obtain rfl := Option.some.inj ho
        have d1 := k1 (hall ⟨1, .data⟩ (by simp) rfl)
        refine g_call 31 _ _ [.int .i64 (B)] (kf31 _ _) (by show ([v 1] : List Value) = _; rw [d1]; (try rfl)) ((of_any B wx jB).mono ?_)
        rintro e w' ⟨rfl, hb⟩
        exact ⟨_, rfl, hB8.trans (hb.mono hnw), Nat.le_trans hsz hb.size, keepE (by decide) k0, keepE (by decide) k1, newE rfl, keepE (by decide) k3, keepE (by decide) k4, keepE (by decide) k5, keepE (by decide) k6, (fun ht => by obtain ⟨p, e1, e2, e5, e3, e4⟩ := k7 ht; exact ⟨p, e1, e2, Nat.lt_of_lt_of_le e5 hb.size, fun h7 => (e3 h7).below hb e5, fun h7 => (e4 h7).below hb e5⟩), k8, keepE (by decide) k9⟩
      · obtain rfl := Option.some.inj ho
        have d0 := k0 (hall ⟨0, .data⟩ (by simp) rfl)
        have d2 := k2 (hall ⟨2, .data⟩ (by simp) rfl)
        refine g_call 30 _ _ [.agg (nl (X)).toArray, .agg (nl (B)).toArray] (kf30 _ _) (by show ([v 0, v 2] : List Value) = _; rw [d0, d2]; (try rfl)) ((add_over X B wx iX iB hoB).mono ?_)
        rintro e w' ⟨rfl, hb⟩
        exact ⟨_, rfl, hB8.trans (hb.mono hnw), Nat.le_trans hsz hb.size, keepE (by decide) k0, keepE (by decide) k1, keepE (by decide) k2, newE rfl, keepE (by decide) k4, keepE (by decide) k5, keepE (by decide) k6, (fun ht => by obtain ⟨p, e1, e2, e5, e3, e4⟩ := k7 ht; exact ⟨p, e1, e2, Nat.lt_of_lt_of_le e5 hb.size, fun h7 => (e3 h7).below hb e5, fun h7 => (e4 h7).below hb e5⟩), k8, keepE (by decide) k9⟩
      · obtain rfl := Option.some.inj ho
        have d3 := k3 (hall ⟨3, .data⟩ (by simp) rfl)
        refine g_move _ _ (show v 3 = _ from d3) ?_
        exact ⟨hB8, hsz, keepE (by decide) k0, keepE (by decide) k1, keepE (by decide) k2, keepE (by decide) k3, newE rfl, keepE (by decide) k5, keepE (by decide) k6, k7, k8, keepE (by decide) k9⟩
      · obtain rfl := Option.some.inj ho
        have d4 := k4 (hall ⟨4, .data⟩ (by simp) rfl)
        refine g_extract _ _ 0 _ (show v 4 = _ from d4) rfl ?_
        exact ⟨hB8, hsz, keepE (by decide) k0, keepE (by decide) k1, keepE (by decide) k2, keepE (by decide) k3, keepE (by decide) k4, newE rfl, keepE (by decide) k6, k7, k8, keepE (by decide) k9⟩
      · obtain rfl := Option.some.inj ho
        have d4 := k4 (hall ⟨4, .data⟩ (by simp) rfl)
        refine g_extract _ _ 1 _ (show v 4 = _ from d4) rfl ?_
        exact ⟨hB8, hsz, keepE (by decide) k0, keepE (by decide) k1, keepE (by decide) k2, keepE (by decide) k3, keepE (by decide) k4, keepE (by decide) k5, newE rfl, k7, k8, keepE (by decide) k9⟩
      · obtain rfl := Option.some.inj ho
        refine g_alloc 25 _ zeroN (fun w' h1 h2 => ?_)
        exact ⟨h1.below hB8 hnw, Nat.le_trans hsz h1.size, keepE (by decide) k0, keepE (by decide) k1, keepE (by decide) k2, keepE (by decide) k3, keepE (by decide) k4, keepE (by decide) k5, keepE (by decide) k6, (fun ht => ⟨wx.heap.size, setV_self _ _ _, hsz, h2.lt, fun _ => h2, fun h7 => by have h6 := k8 h7; rw [hti] at h6; cases h6⟩), (fun _ => setB_self _ _), keepE (by decide) k9⟩
      · obtain rfl := Option.some.inj ho
        have ht6 := hall ⟨7, .data⟩ (by simp) rfl
        have d5 := k5 (hall ⟨5, .data⟩ (by simp) rfl)
        obtain ⟨p, e1, e2, e5, e3, e4⟩ := k7 ht6
        refine g_store_all 25 _ _ p (nl (0)) _ 25 (show v 7 = _ from e1) (show v 5 = _ from d5) (e3 hti) (szN 0) (rfl) (one_nl _) (fun w' h1 h2 => ?_)
        exact ⟨h1.below hB8 (by omega), Nat.le_trans hsz h1.size, keepE (by decide) k0, keepE (by decide) k1, keepE (by decide) k2, keepE (by decide) k3, keepE (by decide) k4, keepE (by decide) k5, keepE (by decide) k6, (fun ht => ⟨p, e1, e2, Nat.lt_of_lt_of_le e5 h1.size, (fun h7 => by have h8 := setB_self t 8; rw [h7] at h8; cases h8), fun _ => h2⟩), (fun _ => ht6), keepE (by decide) k9⟩
      · obtain rfl := Option.some.inj ho
        have d6 := k6 (hall ⟨6, .data⟩ (by simp) rfl)
        refine g_assign _ _ (show v 6 = _ from d6) ?_
        exact ⟨hB8, hsz, keepE (by decide) k0, keepE (by decide) k1, keepE (by decide) k2, keepE (by decide) k3, keepE (by decide) k4, keepE (by decide) k5, keepE (by decide) k6, k7, k8, newE rfl⟩
      · simp at ho
    · simp only [full, Act.put, List.setIfInBounds_toArray, List.set_cons_succ, List.set_cons_zero, Nat.zero_add, Nat.reduceAdd]
      intro t v w4 hS ht
      obtain ⟨hB8, hsz, k0, k1, k2, k3, k4, k5, k6, k7, k8, k9⟩ := hS
      obtain ⟨p2_7, e7, g7, -, -, f7⟩ := k7 (ht 7 (by decide)); replace f7 := f7 (ht 8 (by decide))
      rw [e7]
      have d0 := k0 (ht 0 (by decide)); (try rw [d0])
      have d1 := k1 (ht 1 (by decide)); (try rw [d1])
      have d2 := k2 (ht 2 (by decide)); (try rw [d2])
      have d3 := k3 (ht 3 (by decide)); (try rw [d3])
      have d4 := k4 (ht 4 (by decide)); (try rw [d4])
      have d5 := k5 (ht 5 (by decide)); (try rw [d5])
      have d6 := k6 (ht 6 (by decide)); (try rw [d6])
      have d9 := k9 (ht 9 (by decide)); (try rw [d9])
      clear d0 d1 d2 d3 d4 d5 d6 d9
      clear ht k0 k1 k2 k3 k4 k5 k6 k7 k8 k9 e7 
      generalize v 8 = x8
      have b_y := f7
      clear f7
      have o_y : p1_7 < p2_7 := Nat.lt_of_lt_of_le b_x.lt g7
      have l_y : w.heap.size ≤ p2_7 := Nat.le_trans hB.size g7
      clear g7
      replace b_m := b_m.below hB8 b_m.lt
      replace b_x := b_x.below hB8 b_x.lt
      replace hB := hB.trans (hB8.mono hB.size)
      clear hB8
      clear hsz
      go_wp2_with fail
      go_ret
      exact ⟨rfl, hB⟩

set_option maxRecDepth 10000 in
set_option maxHeartbeats 4000000 in
theorem walk3 (m : Int) (a : Int) (b : Int) (w_m : In128 m) (w_a : In64 a) (w_b : In64 b) (w : World) (A B : Int) (e1 : a.tmod 2305843009213693952 = A) (e2 : b.tmod 2305843009213693952 = B) (jA : In64 A) (jB : In64 B) (iA : In128 A) (iB : In128 B) (X : Int) (iX : In128 X) (hX : Hid (m + A = X)) (Y : Int) (iY : In128 Y) (hY : Hid (X + B = Y)) (D E L M : Int) (jD : In64 D) (jE : In64 E) (d1 : Hid (X - m = A)) (d2 : Hid (Y - X = B)) (d3 : Hid (Y - m = D)) (d4 : Hid (m - Y = E)) (hL : Hid (Y % 18446744073709551616 = L)) (hM : Hid (m % 18446744073709551616 = M)) (hD : Hid (IntKind.i64.wrap (IntKind.u64.wrap (L - M)) = D)) (hS1 : Hid (IntKind.i64.wrap (A + B) = D)) (hS2 : Hid (IntKind.i64.wrap (-D) = E)) :
    Calls Try.prog 10 #[.agg (nl m).toArray, .int .i64 a, .int .i64 b] w fun e w' => e = .returned (.bool true) ∧ Below w.heap.size w w' := by
  go_enter Try.func10, Try.ntmps10
  go_wp2_with (first
    | ((with_reducible refine at_boxD 3 25 ?_); refine L_box 25 _ (nl (m)) rfl ?_; intro w1 t_ b_m; have l_m : w.heap.size ≤ w.heap.size := Nat.le_refl _; have hB : Below w.heap.size w w1 := t_.below (Below.refl _ _) (Nat.le_refl _); clear t_))
  refine (awake_any w1).mono ?_
  rintro e w2 ⟨rfl, t_⟩
  replace b_m := b_m.below t_ b_m.lt
  replace hB := hB.trans (t_.mono hB.size)
  clear t_
  go_wp2_with (first
    | ((with_reducible refine stop_region 4 ?_); intro X1 hX1))
  refine hX1.out ?_
  clear hX1
  refine wp_region_inv (by kernel_rfl) (by kernel_rfl) (fun t v wx => Below (w2.heap.size) w2 wx ∧ w2.heap.size ≤ wx.heap.size ∧ (t 0 = true → v 0 = .agg (nl (m)).toArray) ∧ (t 1 = true → v 1 = .int .i64 (A)) ∧ (t 2 = true → v 2 = .agg (nl (A)).toArray) ∧ (t 3 = true → v 3 = .tuple #[.agg (nl (X)).toArray, .int .i64 (0)]) ∧ (t 4 = true → v 4 = .tuple #[.agg (nl (X)).toArray, .int .i64 (0)]) ∧ (t 5 = true → v 5 = .agg (nl (X)).toArray) ∧ (t 6 = true → v 6 = .int .i64 (0)) ∧ (t 7 = true → ∃ p, v 7 = .pointer (some ⟨p, 0, none⟩) ∧ w2.heap.size ≤ p ∧ p < wx.heap.size ∧ (t 8 = false → Blk wx p (nl (0)) 25) ∧ (t 8 = true → Blk wx p (nl (X)) 25)) ∧ (t 8 = true → t 7 = true) ∧ (t 9 = true → v 9 = .int .i64 (0))) ?_ ?_ ?_
  · exact ⟨(Below.refl _ _).drew, Nat.le_refl _, (fun h => by cases h), (fun h => by cases h), (fun h => by cases h), (fun h => by cases h), (fun h => by cases h), (fun h => by cases h), (fun h => by cases h), (fun h => by cases h), (fun h => by cases h), (fun h => by cases h)⟩
  · simp only [full, Act.put, List.setIfInBounds_toArray, List.set_cons_succ, List.set_cons_zero, Nat.zero_add, Nat.reduceAdd]
    intro i o ho t v wx hS hti hall
    obtain ⟨hB8, hsz, k0, k1, k2, k3, k4, k5, k6, k7, k8, k9⟩ := hS
    have hnw : w2.heap.size ≤ wx.heap.size := Nat.le_trans (by omega) hsz
    rcases i with _ | _ | _ | _ | _ | _ | _ | _ | _ | _ | i
    · obtain rfl := Option.some.inj ho
      refine g_load_all 25 _ (w.heap.size) (nl (m)) 25 _ rfl (b_m.below hB8 b_m.lt) Try.underlying25 rfl (szN 0) ?_
      exact ⟨hB8, hsz, newE rfl, keepE (by decide) k1, keepE (by decide) k2, keepE (by decide) k3, keepE (by decide) k4, keepE (by decide) k5, keepE (by decide) k6, k7, k8, keepE (by decide) k9⟩
    · obtain rfl := Option.some.inj ho
      refine g_move _ _ rfl ?_
      exact ⟨hB8, hsz, keepE (by decide) k0, newE rfl, keepE (by decide) k2, keepE (by decide) k3, keepE (by decide) k4, keepE (by decide) k5, keepE (by decide) k6, k7, k8, keepE (by decide) k9⟩
    · obtain rfl := Option.some.inj ho
      have d1 := k1 (hall ⟨1, .data⟩ (by simp) rfl)
      refine g_call 31 _ _ [.int .i64 (A)] (kf31 _ _) (by show ([v 1] : List Value) = _; rw [d1]; (try rfl)) ((of_any A wx jA).mono ?_)
      rintro e w' ⟨rfl, hb⟩
      exact ⟨_, rfl, hB8.trans (hb.mono hnw), Nat.le_trans hsz hb.size, keepE (by decide) k0, keepE (by decide) k1, newE rfl, keepE (by decide) k3, keepE (by decide) k4, keepE (by decide) k5, keepE (by decide) k6, (fun ht => by obtain ⟨p, e1, e2, e5, e3, e4⟩ := k7 ht; exact ⟨p, e1, e2, Nat.lt_of_lt_of_le e5 hb.size, fun h7 => (e3 h7).below hb e5, fun h7 => (e4 h7).below hb e5⟩), k8, keepE (by decide) k9⟩
    · obtain rfl := Option.some.inj ho
      have d0 := k0 (hall ⟨0, .data⟩ (by simp) rfl)
      have d2 := k2 (hall ⟨2, .data⟩ (by simp) rfl)
      refine g_call 30 _ _ [.agg (nl (m)).toArray, .agg (nl (A)).toArray] (kf30 _ _) (by show ([v 0, v 2] : List Value) = _; rw [d0, d2]; (try rfl)) ((add_l m A X wx w_m iA iX hX).mono ?_)
      rintro e w' ⟨rfl, hb⟩
      exact ⟨_, rfl, hB8.trans (hb.mono hnw), Nat.le_trans hsz hb.size, keepE (by decide) k0, keepE (by decide) k1, keepE (by decide) k2, newE rfl, keepE (by decide) k4, keepE (by decide) k5, keepE (by decide) k6, (fun ht => by obtain ⟨p, e1, e2, e5, e3, e4⟩ := k7 ht; exact ⟨p, e1, e2, Nat.lt_of_lt_of_le e5 hb.size, fun h7 => (e3 h7).below hb e5, fun h7 => (e4 h7).below hb e5⟩), k8, keepE (by decide) k9⟩
    · obtain rfl := Option.some.inj ho
      have d3 := k3 (hall ⟨3, .data⟩ (by simp) rfl)
      refine g_move _ _ (show v 3 = _ from d3) ?_
      exact ⟨hB8, hsz, keepE (by decide) k0, keepE (by decide) k1, keepE (by decide) k2, keepE (by decide) k3, newE rfl, keepE (by decide) k5, keepE (by decide) k6, k7, k8, keepE (by decide) k9⟩
    · obtain rfl := Option.some.inj ho
      have d4 := k4 (hall ⟨4, .data⟩ (by simp) rfl)
      refine g_extract _ _ 0 _ (show v 4 = _ from d4) rfl ?_
      exact ⟨hB8, hsz, keepE (by decide) k0, keepE (by decide) k1, keepE (by decide) k2, keepE (by decide) k3, keepE (by decide) k4, newE rfl, keepE (by decide) k6, k7, k8, keepE (by decide) k9⟩
    · obtain rfl := Option.some.inj ho
      have d4 := k4 (hall ⟨4, .data⟩ (by simp) rfl)
      refine g_extract _ _ 1 _ (show v 4 = _ from d4) rfl ?_
      exact ⟨hB8, hsz, keepE (by decide) k0, keepE (by decide) k1, keepE (by decide) k2, keepE (by decide) k3, keepE (by decide) k4, keepE (by decide) k5, newE rfl, k7, k8, keepE (by decide) k9⟩
    · obtain rfl := Option.some.inj ho
      refine g_alloc 25 _ zeroN (fun w' h1 h2 => ?_)
      exact ⟨h1.below hB8 hnw, Nat.le_trans hsz h1.size, keepE (by decide) k0, keepE (by decide) k1, keepE (by decide) k2, keepE (by decide) k3, keepE (by decide) k4, keepE (by decide) k5, keepE (by decide) k6, (fun ht => ⟨wx.heap.size, setV_self _ _ _, hsz, h2.lt, fun _ => h2, fun h7 => by have h6 := k8 h7; rw [hti] at h6; cases h6⟩), (fun _ => setB_self _ _), keepE (by decide) k9⟩
    · obtain rfl := Option.some.inj ho
      have ht6 := hall ⟨7, .data⟩ (by simp) rfl
      have d5 := k5 (hall ⟨5, .data⟩ (by simp) rfl)
      obtain ⟨p, e1, e2, e5, e3, e4⟩ := k7 ht6
      refine g_store_all 25 _ _ p (nl (X)) _ 25 (show v 7 = _ from e1) (show v 5 = _ from d5) (e3 hti) (szN 0) (rfl) (one_nl _) (fun w' h1 h2 => ?_)
      exact ⟨h1.below hB8 (by omega), Nat.le_trans hsz h1.size, keepE (by decide) k0, keepE (by decide) k1, keepE (by decide) k2, keepE (by decide) k3, keepE (by decide) k4, keepE (by decide) k5, keepE (by decide) k6, (fun ht => ⟨p, e1, e2, Nat.lt_of_lt_of_le e5 h1.size, (fun h7 => by have h8 := setB_self t 8; rw [h7] at h8; cases h8), fun _ => h2⟩), (fun _ => ht6), keepE (by decide) k9⟩
    · obtain rfl := Option.some.inj ho
      have d6 := k6 (hall ⟨6, .data⟩ (by simp) rfl)
      refine g_assign _ _ (show v 6 = _ from d6) ?_
      exact ⟨hB8, hsz, keepE (by decide) k0, keepE (by decide) k1, keepE (by decide) k2, keepE (by decide) k3, keepE (by decide) k4, keepE (by decide) k5, keepE (by decide) k6, k7, k8, newE rfl⟩
    · simp at ho
  · simp only [full, Act.put, List.setIfInBounds_toArray, List.set_cons_succ, List.set_cons_zero, Nat.zero_add, Nat.reduceAdd]
    intro t v w3 hS ht
    obtain ⟨hB8, hsz, k0, k1, k2, k3, k4, k5, k6, k7, k8, k9⟩ := hS
    obtain ⟨p1_7, e7, g7, -, -, f7⟩ := k7 (ht 7 (by decide)); replace f7 := f7 (ht 8 (by decide))
    rw [e7]
    have d0 := k0 (ht 0 (by decide)); (try rw [d0])
    have d1 := k1 (ht 1 (by decide)); (try rw [d1])
    have d2 := k2 (ht 2 (by decide)); (try rw [d2])
    have d3 := k3 (ht 3 (by decide)); (try rw [d3])
    have d4 := k4 (ht 4 (by decide)); (try rw [d4])
    have d5 := k5 (ht 5 (by decide)); (try rw [d5])
    have d6 := k6 (ht 6 (by decide)); (try rw [d6])
    have d9 := k9 (ht 9 (by decide)); (try rw [d9])
    clear d0 d1 d2 d3 d4 d5 d6 d9
    clear ht k0 k1 k2 k3 k4 k5 k6 k7 k8 k9 e7 
    generalize v 8 = x8
    have b_x := f7
    clear f7
    have o_x : w.heap.size < p1_7 := Nat.lt_of_lt_of_le b_m.lt g7
    have l_x : w.heap.size ≤ p1_7 := Nat.le_trans hB.size g7
    clear g7
    replace b_m := b_m.below hB8 b_m.lt
    replace hB := hB.trans (hB8.mono hB.size)
    clear hB8
    clear hsz
    go_wp2_with (first
      | ((with_reducible refine stop_region 5 ?_); intro X2 hX2))
    refine hX2.out ?_
    clear hX2
    refine wp_region_inv (by kernel_rfl) (by kernel_rfl) (fun t v wx => Below (w3.heap.size) w3 wx ∧ w3.heap.size ≤ wx.heap.size ∧ (t 0 = true → v 0 = .agg (nl (X)).toArray) ∧ (t 1 = true → v 1 = .int .i64 (B)) ∧ (t 2 = true → v 2 = .agg (nl (B)).toArray) ∧ (t 3 = true → v 3 = .tuple #[.agg (nl (Y)).toArray, .int .i64 (0)]) ∧ (t 4 = true → v 4 = .tuple #[.agg (nl (Y)).toArray, .int .i64 (0)]) ∧ (t 5 = true → v 5 = .agg (nl (Y)).toArray) ∧ (t 6 = true → v 6 = .int .i64 (0)) ∧ (t 7 = true → ∃ p, v 7 = .pointer (some ⟨p, 0, none⟩) ∧ w3.heap.size ≤ p ∧ p < wx.heap.size ∧ (t 8 = false → Blk wx p (nl (0)) 25) ∧ (t 8 = true → Blk wx p (nl (Y)) 25)) ∧ (t 8 = true → t 7 = true) ∧ (t 9 = true → v 9 = .int .i64 (0))) ?_ ?_ ?_
    · exact ⟨(Below.refl _ _).drew, Nat.le_refl _, (fun h => by cases h), (fun h => by cases h), (fun h => by cases h), (fun h => by cases h), (fun h => by cases h), (fun h => by cases h), (fun h => by cases h), (fun h => by cases h), (fun h => by cases h), (fun h => by cases h)⟩
    · simp only [full, Act.put, List.setIfInBounds_toArray, List.set_cons_succ, List.set_cons_zero, Nat.zero_add, Nat.reduceAdd]
      intro i o ho t v wx hS hti hall
      obtain ⟨hB8, hsz, k0, k1, k2, k3, k4, k5, k6, k7, k8, k9⟩ := hS
      have hnw : w3.heap.size ≤ wx.heap.size := Nat.le_trans (by omega) hsz
      rcases i with _ | _ | _ | _ | _ | _ | _ | _ | _ | _ | i
      · obtain rfl := Option.some.inj ho
        refine g_load_all 25 _ (p1_7) (nl (X)) 25 _ rfl (b_x.below hB8 b_x.lt) Try.underlying25 rfl (szN 0) ?_
        exact ⟨hB8, hsz, newE rfl, keepE (by decide) k1, keepE (by decide) k2, keepE (by decide) k3, keepE (by decide) k4, keepE (by decide) k5, keepE (by decide) k6, k7, k8, keepE (by decide) k9⟩
      · obtain rfl := Option.some.inj ho
        refine g_move _ _ rfl ?_
        exact ⟨hB8, hsz, keepE (by decide) k0, newE rfl, keepE (by decide) k2, keepE (by decide) k3, keepE (by decide) k4, keepE (by decide) k5, keepE (by decide) k6, k7, k8, keepE (by decide) k9⟩
      · obtain rfl := Option.some.inj ho
        have d1 := k1 (hall ⟨1, .data⟩ (by simp) rfl)
        refine g_call 31 _ _ [.int .i64 (B)] (kf31 _ _) (by show ([v 1] : List Value) = _; rw [d1]; (try rfl)) ((of_any B wx jB).mono ?_)
        rintro e w' ⟨rfl, hb⟩
        exact ⟨_, rfl, hB8.trans (hb.mono hnw), Nat.le_trans hsz hb.size, keepE (by decide) k0, keepE (by decide) k1, newE rfl, keepE (by decide) k3, keepE (by decide) k4, keepE (by decide) k5, keepE (by decide) k6, (fun ht => by obtain ⟨p, e1, e2, e5, e3, e4⟩ := k7 ht; exact ⟨p, e1, e2, Nat.lt_of_lt_of_le e5 hb.size, fun h7 => (e3 h7).below hb e5, fun h7 => (e4 h7).below hb e5⟩), k8, keepE (by decide) k9⟩
      · obtain rfl := Option.some.inj ho
        have d0 := k0 (hall ⟨0, .data⟩ (by simp) rfl)
        have d2 := k2 (hall ⟨2, .data⟩ (by simp) rfl)
        refine g_call 30 _ _ [.agg (nl (X)).toArray, .agg (nl (B)).toArray] (kf30 _ _) (by show ([v 0, v 2] : List Value) = _; rw [d0, d2]; (try rfl)) ((add_l X B Y wx iX iB iY hY).mono ?_)
        rintro e w' ⟨rfl, hb⟩
        exact ⟨_, rfl, hB8.trans (hb.mono hnw), Nat.le_trans hsz hb.size, keepE (by decide) k0, keepE (by decide) k1, keepE (by decide) k2, newE rfl, keepE (by decide) k4, keepE (by decide) k5, keepE (by decide) k6, (fun ht => by obtain ⟨p, e1, e2, e5, e3, e4⟩ := k7 ht; exact ⟨p, e1, e2, Nat.lt_of_lt_of_le e5 hb.size, fun h7 => (e3 h7).below hb e5, fun h7 => (e4 h7).below hb e5⟩), k8, keepE (by decide) k9⟩
      · obtain rfl := Option.some.inj ho
        have d3 := k3 (hall ⟨3, .data⟩ (by simp) rfl)
        refine g_move _ _ (show v 3 = _ from d3) ?_
        exact ⟨hB8, hsz, keepE (by decide) k0, keepE (by decide) k1, keepE (by decide) k2, keepE (by decide) k3, newE rfl, keepE (by decide) k5, keepE (by decide) k6, k7, k8, keepE (by decide) k9⟩
      · obtain rfl := Option.some.inj ho
        have d4 := k4 (hall ⟨4, .data⟩ (by simp) rfl)
        refine g_extract _ _ 0 _ (show v 4 = _ from d4) rfl ?_
        exact ⟨hB8, hsz, keepE (by decide) k0, keepE (by decide) k1, keepE (by decide) k2, keepE (by decide) k3, keepE (by decide) k4, newE rfl, keepE (by decide) k6, k7, k8, keepE (by decide) k9⟩
      · obtain rfl := Option.some.inj ho
        have d4 := k4 (hall ⟨4, .data⟩ (by simp) rfl)
        refine g_extract _ _ 1 _ (show v 4 = _ from d4) rfl ?_
        exact ⟨hB8, hsz, keepE (by decide) k0, keepE (by decide) k1, keepE (by decide) k2, keepE (by decide) k3, keepE (by decide) k4, keepE (by decide) k5, newE rfl, k7, k8, keepE (by decide) k9⟩
      · obtain rfl := Option.some.inj ho
        refine g_alloc 25 _ zeroN (fun w' h1 h2 => ?_)
        exact ⟨h1.below hB8 hnw, Nat.le_trans hsz h1.size, keepE (by decide) k0, keepE (by decide) k1, keepE (by decide) k2, keepE (by decide) k3, keepE (by decide) k4, keepE (by decide) k5, keepE (by decide) k6, (fun ht => ⟨wx.heap.size, setV_self _ _ _, hsz, h2.lt, fun _ => h2, fun h7 => by have h6 := k8 h7; rw [hti] at h6; cases h6⟩), (fun _ => setB_self _ _), keepE (by decide) k9⟩
      · obtain rfl := Option.some.inj ho
        have ht6 := hall ⟨7, .data⟩ (by simp) rfl
        have d5 := k5 (hall ⟨5, .data⟩ (by simp) rfl)
        obtain ⟨p, e1, e2, e5, e3, e4⟩ := k7 ht6
        refine g_store_all 25 _ _ p (nl (Y)) _ 25 (show v 7 = _ from e1) (show v 5 = _ from d5) (e3 hti) (szN 0) (rfl) (one_nl _) (fun w' h1 h2 => ?_)
        exact ⟨h1.below hB8 (by omega), Nat.le_trans hsz h1.size, keepE (by decide) k0, keepE (by decide) k1, keepE (by decide) k2, keepE (by decide) k3, keepE (by decide) k4, keepE (by decide) k5, keepE (by decide) k6, (fun ht => ⟨p, e1, e2, Nat.lt_of_lt_of_le e5 h1.size, (fun h7 => by have h8 := setB_self t 8; rw [h7] at h8; cases h8), fun _ => h2⟩), (fun _ => ht6), keepE (by decide) k9⟩
      · obtain rfl := Option.some.inj ho
        have d6 := k6 (hall ⟨6, .data⟩ (by simp) rfl)
        refine g_assign _ _ (show v 6 = _ from d6) ?_
        exact ⟨hB8, hsz, keepE (by decide) k0, keepE (by decide) k1, keepE (by decide) k2, keepE (by decide) k3, keepE (by decide) k4, keepE (by decide) k5, keepE (by decide) k6, k7, k8, newE rfl⟩
      · simp at ho
    · simp only [full, Act.put, List.setIfInBounds_toArray, List.set_cons_succ, List.set_cons_zero, Nat.zero_add, Nat.reduceAdd]
      intro t v w4 hS ht
      obtain ⟨hB8, hsz, k0, k1, k2, k3, k4, k5, k6, k7, k8, k9⟩ := hS
      obtain ⟨p2_7, e7, g7, -, -, f7⟩ := k7 (ht 7 (by decide)); replace f7 := f7 (ht 8 (by decide))
      rw [e7]
      have d0 := k0 (ht 0 (by decide)); (try rw [d0])
      have d1 := k1 (ht 1 (by decide)); (try rw [d1])
      have d2 := k2 (ht 2 (by decide)); (try rw [d2])
      have d3 := k3 (ht 3 (by decide)); (try rw [d3])
      have d4 := k4 (ht 4 (by decide)); (try rw [d4])
      have d5 := k5 (ht 5 (by decide)); (try rw [d5])
      have d6 := k6 (ht 6 (by decide)); (try rw [d6])
      have d9 := k9 (ht 9 (by decide)); (try rw [d9])
      clear d0 d1 d2 d3 d4 d5 d6 d9
      clear ht k0 k1 k2 k3 k4 k5 k6 k7 k8 k9 e7 
      generalize v 8 = x8
      have b_y := f7
      clear f7
      have o_y : p1_7 < p2_7 := Nat.lt_of_lt_of_le b_x.lt g7
      have l_y : w.heap.size ≤ p2_7 := Nat.le_trans hB.size g7
      clear g7
      replace b_m := b_m.below hB8 b_m.lt
      replace b_x := b_x.below hB8 b_x.lt
      replace hB := hB.trans (hB8.mono hB.size)
      clear hB8
      clear hsz
      go_wp2_with (first
        | ((with_reducible refine at_loadD 46 25 ?_); refine L_load_all 25 _ (p1_7) (nl (X)) 25 _ rfl b_x Try.underlying25 rfl (szN 0) ?_)
        | ((with_reducible refine at_loadD 47 25 ?_); refine L_load_all 25 _ (w.heap.size) (nl (m)) 25 _ rfl b_m Try.underlying25 rfl (szN 0) ?_))
      refine (since_ok X m A w4 iX w_m d1 jA).mono ?_
      rintro e w5 ⟨rfl, t_⟩
      replace b_m := b_m.below t_ b_m.lt
      replace b_x := b_x.below t_ b_x.lt
      replace b_y := b_y.below t_ b_y.lt
      replace hB := hB.trans (t_.mono hB.size)
      clear t_
      go_wp2_with (first
        | ((with_reducible refine at_loadD 52 25 ?_); refine L_load_all 25 _ (p2_7) (nl (Y)) 25 _ rfl b_y Try.underlying25 rfl (szN 0) ?_)
        | ((with_reducible refine at_loadD 53 25 ?_); refine L_load_all 25 _ (p1_7) (nl (X)) 25 _ rfl b_x Try.underlying25 rfl (szN 0) ?_))
      refine (since_ok Y X B w5 iY iX d2 jB).mono ?_
      rintro e w6 ⟨rfl, t_⟩
      replace b_m := b_m.below t_ b_m.lt
      replace b_x := b_x.below t_ b_x.lt
      replace b_y := b_y.below t_ b_y.lt
      replace hB := hB.trans (t_.mono hB.size)
      clear t_
      go_wp2_with (first
        | ((with_reducible refine at_loadD 58 25 ?_); refine L_load_all 25 _ (p2_7) (nl (Y)) 25 _ rfl b_y Try.underlying25 rfl (szN 0) ?_)
        | ((with_reducible refine at_loadD 59 25 ?_); refine L_load_all 25 _ (w.heap.size) (nl (m)) 25 _ rfl b_m Try.underlying25 rfl (szN 0) ?_))
      refine (since_ok Y m D w6 iY w_m d3 jD).mono ?_
      rintro e w7 ⟨rfl, t_⟩
      replace b_m := b_m.below t_ b_m.lt
      replace b_x := b_x.below t_ b_x.lt
      replace b_y := b_y.below t_ b_y.lt
      replace hB := hB.trans (t_.mono hB.size)
      clear t_
      go_wp2_with (first
        | ((with_reducible refine at_loadD 64 25 ?_); refine L_load_all 25 _ (w.heap.size) (nl (m)) 25 _ rfl b_m Try.underlying25 rfl (szN 0) ?_)
        | ((with_reducible refine at_loadD 65 25 ?_); refine L_load_all 25 _ (p2_7) (nl (Y)) 25 _ rfl b_y Try.underlying25 rfl (szN 0) ?_))
      refine (since_ok m Y E w7 w_m iY d4 jE).mono ?_
      rintro e w8 ⟨rfl, t_⟩
      replace b_m := b_m.below t_ b_m.lt
      replace b_x := b_x.below t_ b_x.lt
      replace b_y := b_y.below t_ b_y.lt
      replace hB := hB.trans (t_.mono hB.size)
      clear t_
      go_wp2_with (first
        | ((with_reducible refine stop_region 12 ?_); intro X3 hX3))
      refine hX3.out ?_
      clear hX3
      (try simp only [List.append_eq, List.cons_append, List.nil_append])
      refine wp_region_fixed (by kernel_rfl) (by kernel_rfl) [.int .i64 (0), .bool true, .bool true, .int .i64 (0), .bool true, .bool true, .bool true, .int .i64 (0), .bool true, .bool true, .bool true, .int .i64 (0), .bool true, .bool true, .bool true, .int .i64 (A), .int .i64 (A), .bool true, .bool true, .bool true, .int .i64 (B), .int .i64 (B), .bool true, .bool true, .bool true, .int .i64 (D), .int .i64 (A), .int .i64 (B), .int .i64 (D), .bool true, .bool true, .bool true, .int .i64 (E), .int .i64 (D), .int .i64 (E), .bool true, .bool true, .bool true, .agg (nl (Y)).toArray, .int .u64 (L), .agg (nl (m)).toArray, .int .u64 (M), .int .i64 (D), .int .i64 (D), .bool true, .bool true, .bool true] (by rfl) (fun w9 => Below w8.heap.size w8 w9) (Below.refl _ _).drew ?_ ?_
      · simp only [fullL, Act.put, List.setIfInBounds_toArray, List.set_cons_succ, List.set_cons_zero]
        refine ⟨?_, ?_, ?_, ?_, ?_, ?_, ?_, ?_, ?_, ?_, ?_, ?_, ?_, ?_, ?_, ?_, ?_, ?_, ?_, ?_, ?_, ?_, ?_, ?_, ?_, ?_, ?_, ?_, ?_, ?_, ?_, ?_, ?_, ?_, ?_, ?_, ?_, ?_, ?_, ?_, ?_, ?_, ?_, ?_, ?_, ?_, ?_, trivial⟩
        · exact fun w9 hw => gw rfl (g_move _ _ rfl ⟨rfl, hw⟩)
        · exact fun w9 hw => gw rfl (g_ieq 27 _ _ .i64 _ _ true rfl rfl (by decide) ⟨rfl, hw⟩)
        · exact fun w9 hw => gw rfl (g_move _ _ rfl ⟨rfl, hw⟩)
        · exact fun w9 hw => gw rfl (g_move _ _ rfl ⟨rfl, hw⟩)
        · exact fun w9 hw => gw rfl (g_ieq 27 _ _ .i64 _ _ true rfl rfl (by decide) ⟨rfl, hw⟩)
        · exact fun w9 hw => gw rfl (g_pickt _ _ _ _ rfl rfl ⟨rfl, hw⟩)
        · exact fun w9 hw => gw rfl (g_move _ _ rfl ⟨rfl, hw⟩)
        · exact fun w9 hw => gw rfl (g_move _ _ rfl ⟨rfl, hw⟩)
        · exact fun w9 hw => gw rfl (g_ieq 27 _ _ .i64 _ _ true rfl rfl (by decide) ⟨rfl, hw⟩)
        · exact fun w9 hw => gw rfl (g_pickt _ _ _ _ rfl rfl ⟨rfl, hw⟩)
        · exact fun w9 hw => gw rfl (g_move _ _ rfl ⟨rfl, hw⟩)
        · exact fun w9 hw => gw rfl (g_move _ _ rfl ⟨rfl, hw⟩)
        · exact fun w9 hw => gw rfl (g_ieq 27 _ _ .i64 _ _ true rfl rfl (by decide) ⟨rfl, hw⟩)
        · exact fun w9 hw => gw rfl (g_pickt _ _ _ _ rfl rfl ⟨rfl, hw⟩)
        · exact fun w9 hw => gw rfl (g_move _ _ rfl ⟨rfl, hw⟩)
        · exact fun w9 hw => gw rfl (g_move _ _ rfl ⟨rfl, hw⟩)
        · exact fun w9 hw => gw rfl (g_move _ _ rfl ⟨rfl, hw⟩)
        · exact fun w9 hw => gw rfl (g_ieq 2 _ _ .i64 _ _ true rfl rfl (decide_eq_true rfl) ⟨rfl, hw⟩)
        · exact fun w9 hw => gw rfl (g_pickt _ _ _ _ rfl rfl ⟨rfl, hw⟩)
        · exact fun w9 hw => gw rfl (g_move _ _ rfl ⟨rfl, hw⟩)
        · exact fun w9 hw => gw rfl (g_move _ _ rfl ⟨rfl, hw⟩)
        · exact fun w9 hw => gw rfl (g_move _ _ rfl ⟨rfl, hw⟩)
        · exact fun w9 hw => gw rfl (g_ieq 2 _ _ .i64 _ _ true rfl rfl (decide_eq_true rfl) ⟨rfl, hw⟩)
        · exact fun w9 hw => gw rfl (g_pickt _ _ _ _ rfl rfl ⟨rfl, hw⟩)
        · exact fun w9 hw => gw rfl (g_move _ _ rfl ⟨rfl, hw⟩)
        · exact fun w9 hw => gw rfl (g_move _ _ rfl ⟨rfl, hw⟩)
        · exact fun w9 hw => gw rfl (g_move _ _ rfl ⟨rfl, hw⟩)
        · exact fun w9 hw => gw rfl (g_move _ _ rfl ⟨rfl, hw⟩)
        · exact fun w9 hw => gw rfl (g_iadd 2 _ _ .i64 _ _ _ rfl rfl hS1.out ⟨rfl, hw⟩)
        · exact fun w9 hw => gw rfl (g_ieq 2 _ _ .i64 _ _ true rfl rfl (decide_eq_true rfl) ⟨rfl, hw⟩)
        · exact fun w9 hw => gw rfl (g_pickt _ _ _ _ rfl rfl ⟨rfl, hw⟩)
        · exact fun w9 hw => gw rfl (g_move _ _ rfl ⟨rfl, hw⟩)
        · exact fun w9 hw => gw rfl (g_move _ _ rfl ⟨rfl, hw⟩)
        · exact fun w9 hw => gw rfl (g_move _ _ rfl ⟨rfl, hw⟩)
        · exact fun w9 hw => gw rfl (g_ineg 2 _ _ _ _ rfl (hS2.out) ⟨rfl, hw⟩)
        · exact fun w9 hw => gw rfl (g_ieq 2 _ _ .i64 _ _ true rfl rfl (decide_eq_true rfl) ⟨rfl, hw⟩)
        · exact fun w9 hw => gw rfl (g_pickt _ _ _ _ rfl rfl ⟨rfl, hw⟩)
        · exact fun w9 hw => gw rfl (g_move _ _ rfl ⟨rfl, hw⟩)
        · exact fun w9 hw => gw rfl (g_load_all 25 _ (p2_7) _ 25 _ rfl (b_y.below hw b_y.lt) Try.underlying25 rfl (szN 0) ⟨rfl, hw⟩)
        · exact fun w9 hw => gw rfl (g_call 22 _ _ [.agg (nl (Y)).toArray] (kf22 _ _) rfl (mono_val hw (fold_any Y L w9 hL.out)))
        · exact fun w9 hw => gw rfl (g_load_all 25 _ (w.heap.size) _ 25 _ rfl (b_m.below hw b_m.lt) Try.underlying25 rfl (szN 0) ⟨rfl, hw⟩)
        · exact fun w9 hw => gw rfl (g_call 22 _ _ [.agg (nl (m)).toArray] (kf22 _ _) rfl (mono_val hw (fold_any m M w9 hM.out)))
        · exact fun w9 hw => gw rfl (g_call 19 _ _ [.int .u64 (L), .int .u64 (M)] (kf19 _ _) rfl (mono_same hw (diff_any L M D w9 hD.out)))
        · exact fun w9 hw => gw rfl (g_move _ _ rfl ⟨rfl, hw⟩)
        · exact fun w9 hw => gw rfl (g_ieq 2 _ _ .i64 _ _ true rfl rfl (decide_eq_true rfl) ⟨rfl, hw⟩)
        · exact fun w9 hw => gw rfl (g_pickt _ _ _ _ rfl rfl ⟨rfl, hw⟩)
        · exact fun w9 hw => gw rfl (g_assign _ _ rfl ⟨rfl, hw⟩)
      simp only [fullL, Act.put, List.setIfInBounds_toArray, List.set_cons_succ, List.set_cons_zero]
      intro w9 hw
      replace b_m := b_m.below hw b_m.lt
      replace b_x := b_x.below hw b_x.lt
      replace b_y := b_y.below hw b_y.lt
      replace hB := hB.trans (hw.mono hB.size)
      clear hw
      go_wp2_with fail
      go_ret
      exact ⟨rfl, hB⟩

theorem tmod_lt (n : Int) : -2305843009213693952 < n.tmod 2305843009213693952 ∧ n.tmod 2305843009213693952 < 2305843009213693952 := by
  have h1 := Int.tmod_lt_of_pos n (show (0 : Int) < 2305843009213693952 by omega)
  have h2 := Int.lt_tmod_of_pos n (show (0 : Int) < 2305843009213693952 by omega)
  omega
theorem walk (m : Int) (a : Int) (b : Int) (w_m : In128 m) (w_a : In64 a) (w_b : In64 b) (w : World) :
    Calls Try.prog 10 #[.agg (nl m).toArray, .int .i64 a, .int .i64 b] w fun e w' => e = .returned (.bool true) ∧ Below w.heap.size w w' := by
  have hA := tmod_lt a
  have hB := tmod_lt b
  generalize e1 : a.tmod 2305843009213693952 = A at hA
  generalize e2 : b.tmod 2305843009213693952 = B at hB
  have jA : In64 A := by unfold In64; omega
  have jB : In64 B := by unfold In64; omega
  by_cases oA : In128 (m + A)
  · by_cases oB : In128 (m + A + B)
    · exact walk3 m a b w_m w_a w_b w A B e1 e2 jA jB jA.to jB.to (m + A) oA rfl (m + A + B) oB rfl (A + B) (-(A + B)) _ _ (by unfold In64; omega) (by unfold In64; omega) (by show _ = _; omega) (by show _ = _; omega) (by show _ = _; omega) (by show _ = _; omega) rfl rfl (by show _ = _; simp only [IntKind.wrap_i64, IntKind.wrap_u64]; omega) (by show _ = _; rw [IntKind.wrap_i64]; omega) (by show _ = _; rw [IntKind.wrap_i64]; omega)
    · exact walk2 m a b w_m w_a w_b w A B e1 e2 jA jB jA.to jB.to (m + A) oA rfl oB
  · exact walk1 m a b w_m w_a w_b w A B e1 e2 jA jB jA.to jB.to oA (by unfold In128; omega) (by unfold In128; omega)

end Go.Proofs.Ytpeiboehdjhimaa.stampSince
