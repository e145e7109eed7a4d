/- StampBack: the walk. -/
import Derived.Test.YtpeiboehdjhimaaStG
namespace Go.Proofs.Ytpeiboehdjhimaa.stampBack
open Go Go.RowKit
set_option linter.unusedVariables false

set_option maxRecDepth 10000 in
set_option maxHeartbeats 4000000 in
theorem walk0 (m : Int) (w_m : In128 m) (w : World) :
    Calls Try.prog 6 #[.agg (nl m).toArray, .int .i64 (-9223372036854775808)] w fun e w' => e = .returned (.bool true) ∧ Below w.heap.size w w' := by
  go_enter Try.func6, Try.ntmps6
  go_wp2_with (first
    | ((with_reducible refine at_boxD 2 25 ?_); refine L_box 25 _ (nl (m)) rfl ?_; intro w1 t_ b_m; have l_m : w.heap.size ≤ w.heap.size := Nat.le_refl _; have hB : Below w.heap.size w w1 := t_.below (Below.refl _ _) (Nat.le_refl _); clear t_))
  refine (awake_any w1).mono ?_
  rintro e w2 ⟨rfl, t_⟩
  replace b_m := b_m.below t_ b_m.lt
  replace hB := hB.trans (t_.mono hB.size)
  clear t_
  go_wp2_with fail
  go_ret
  exact ⟨rfl, hB⟩

set_option maxRecDepth 10000 in
set_option maxHeartbeats 4000000 in
theorem walk1 (m : Int) (f : Int) (w_m : In128 m) (w_f : In64 f) (w : World) (hf : ¬ f = -9223372036854775808) (jf : In128 f) (hov : ¬ In128 (m + f)) :
    Calls Try.prog 6 #[.agg (nl m).toArray, .int .i64 f] w fun e w' => e = .returned (.bool true) ∧ Below w.heap.size w w' := by
  go_enter Try.func6, Try.ntmps6
  go_wp2_with (first
    | ((with_reducible refine at_boxD 2 25 ?_); refine L_box 25 _ (nl (m)) rfl ?_; intro w1 t_ b_m; have l_m : w.heap.size ≤ w.heap.size := Nat.le_refl _; have hB : Below w.heap.size w w1 := t_.below (Below.refl _ _) (Nat.le_refl _); clear t_))
  refine (awake_any w1).mono ?_
  rintro e w2 ⟨rfl, t_⟩
  replace b_m := b_m.below t_ b_m.lt
  replace hB := hB.trans (t_.mono hB.size)
  clear t_
  go_wp2_with (first
    | ((with_reducible refine at_binD 14 ?_); refine L_give (by rfl) (g_ieq 2 _ _ .i64 _ _ false rfl rfl (decide_eq_false hf) ?_))
    | ((with_reducible refine stop_region 5 ?_); intro X1 hX1))
  refine hX1.out ?_
  clear hX1
  refine wp_region_inv (by kernel_rfl) (by kernel_rfl) (fun t v wx => Below (w2.heap.size) w2 wx ∧ w2.heap.size ≤ wx.heap.size ∧ (t 0 = true → v 0 = .agg (nl (m)).toArray) ∧ (t 1 = true → v 1 = .int .i64 (f)) ∧ (t 2 = true → v 2 = .agg (nl (f)).toArray) ∧ (t 3 = true → v 3 = .tuple #[.agg (nl (0)).toArray, .int .i64 (6)]) ∧ (t 4 = true → v 4 = .tuple #[.agg (nl (0)).toArray, .int .i64 (6)]) ∧ (t 5 = true → v 5 = .agg (nl (0)).toArray) ∧ (t 6 = true → v 6 = .int .i64 (6)) ∧ (t 7 = true → ∃ p, v 7 = .pointer (some ⟨p, 0, none⟩) ∧ w2.heap.size ≤ p ∧ p < wx.heap.size ∧ (t 8 = false → Blk wx p (nl (0)) 25) ∧ (t 8 = true → Blk wx p (nl (0)) 25)) ∧ (t 8 = true → t 7 = true) ∧ (t 9 = true → v 9 = .int .i64 (6))) ?_ ?_ ?_
  · exact ⟨(Below.refl _ _).drew, Nat.le_refl _, (fun h => by cases h), (fun h => by cases h), (fun h => by cases h), (fun h => by cases h), (fun h => by cases h), (fun h => by cases h), (fun h => by cases h), (fun h => by cases h), (fun h => by cases h), (fun h => by cases h)⟩
  · simp only [full, Act.put, List.setIfInBounds_toArray, List.set_cons_succ, List.set_cons_zero, Nat.zero_add, Nat.reduceAdd]
    intro i o ho t v wx hS hti hall
    obtain ⟨hB8, hsz, k0, k1, k2, k3, k4, k5, k6, k7, k8, k9⟩ := hS
    have hnw : w2.heap.size ≤ wx.heap.size := Nat.le_trans (by omega) hsz
    rcases i with _ | _ | _ | _ | _ | _ | _ | _ | _ | _ | i
    · obtain rfl := Option.some.inj ho
      refine g_load_all 25 _ (w.heap.size) (nl (m)) 25 _ rfl (b_m.below hB8 b_m.lt) Try.underlying25 rfl (szN 0) ?_
      exact ⟨hB8, hsz, newE rfl, keepE (by decide) k1, keepE (by decide) k2, keepE (by decide) k3, keepE (by decide) k4, keepE (by decide) k5, keepE (by decide) k6, k7, k8, keepE (by decide) k9⟩
    · obtain rfl := Option.some.inj ho
      refine g_move _ _ rfl ?_
      exact ⟨hB8, hsz, keepE (by decide) k0, newE rfl, keepE (by decide) k2, keepE (by decide) k3, keepE (by decide) k4, keepE (by decide) k5, keepE (by decide) k6, k7, k8, keepE (by decide) k9⟩
    · obtain rfl := Option.some.inj ho
      have d1 := k1 (hall ⟨1, .data⟩ (by simp) rfl)
      refine g_call 31 _ _ [.int .i64 (f)] (kf31 _ _) (by show ([v 1] : List Value) = _; rw [d1]; (try rfl)) ((of_any f wx w_f).mono ?_)
      rintro e w' ⟨rfl, hb⟩
      exact ⟨_, rfl, hB8.trans (hb.mono hnw), Nat.le_trans hsz hb.size, keepE (by decide) k0, keepE (by decide) k1, newE rfl, keepE (by decide) k3, keepE (by decide) k4, keepE (by decide) k5, keepE (by decide) k6, (fun ht => by obtain ⟨p, e1, e2, e5, e3, e4⟩ := k7 ht; exact ⟨p, e1, e2, Nat.lt_of_lt_of_le e5 hb.size, fun h7 => (e3 h7).below hb e5, fun h7 => (e4 h7).below hb e5⟩), k8, keepE (by decide) k9⟩
    · obtain rfl := Option.some.inj ho
      have d0 := k0 (hall ⟨0, .data⟩ (by simp) rfl)
      have d2 := k2 (hall ⟨2, .data⟩ (by simp) rfl)
      refine g_call 30 _ _ [.agg (nl (m)).toArray, .agg (nl (f)).toArray] (kf30 _ _) (by show ([v 0, v 2] : List Value) = _; rw [d0, d2]; (try rfl)) ((add_over m f wx w_m jf hov).mono ?_)
      rintro e w' ⟨rfl, hb⟩
      exact ⟨_, rfl, hB8.trans (hb.mono hnw), Nat.le_trans hsz hb.size, keepE (by decide) k0, keepE (by decide) k1, keepE (by decide) k2, newE rfl, keepE (by decide) k4, keepE (by decide) k5, keepE (by decide) k6, (fun ht => by obtain ⟨p, e1, e2, e5, e3, e4⟩ := k7 ht; exact ⟨p, e1, e2, Nat.lt_of_lt_of_le e5 hb.size, fun h7 => (e3 h7).below hb e5, fun h7 => (e4 h7).below hb e5⟩), k8, keepE (by decide) k9⟩
    · obtain rfl := Option.some.inj ho
      have d3 := k3 (hall ⟨3, .data⟩ (by simp) rfl)
      refine g_move _ _ (show v 3 = _ from d3) ?_
      exact ⟨hB8, hsz, keepE (by decide) k0, keepE (by decide) k1, keepE (by decide) k2, keepE (by decide) k3, newE rfl, keepE (by decide) k5, keepE (by decide) k6, k7, k8, keepE (by decide) k9⟩
    · obtain rfl := Option.some.inj ho
      have d4 := k4 (hall ⟨4, .data⟩ (by simp) rfl)
      refine g_extract _ _ 0 _ (show v 4 = _ from d4) rfl ?_
      exact ⟨hB8, hsz, keepE (by decide) k0, keepE (by decide) k1, keepE (by decide) k2, keepE (by decide) k3, keepE (by decide) k4, newE rfl, keepE (by decide) k6, k7, k8, keepE (by decide) k9⟩
    · obtain rfl := Option.some.inj ho
      have d4 := k4 (hall ⟨4, .data⟩ (by simp) rfl)
      refine g_extract _ _ 1 _ (show v 4 = _ from d4) rfl ?_
      exact ⟨hB8, hsz, keepE (by decide) k0, keepE (by decide) k1, keepE (by decide) k2, keepE (by decide) k3, keepE (by decide) k4, keepE (by decide) k5, newE rfl, k7, k8, keepE (by decide) k9⟩
    · obtain rfl := Option.some.inj ho
      refine g_alloc 25 _ zeroN (fun w' h1 h2 => ?_)
      exact ⟨h1.below hB8 hnw, Nat.le_trans hsz h1.size, keepE (by decide) k0, keepE (by decide) k1, keepE (by decide) k2, keepE (by decide) k3, keepE (by decide) k4, keepE (by decide) k5, keepE (by decide) k6, (fun ht => ⟨wx.heap.size, setV_self _ _ _, hsz, h2.lt, fun _ => h2, fun h7 => by have h6 := k8 h7; rw [hti] at h6; cases h6⟩), (fun _ => setB_self _ _), keepE (by decide) k9⟩
    · obtain rfl := Option.some.inj ho
      have ht6 := hall ⟨7, .data⟩ (by simp) rfl
      have d5 := k5 (hall ⟨5, .data⟩ (by simp) rfl)
      obtain ⟨p, e1, e2, e5, e3, e4⟩ := k7 ht6
      refine g_store_all 25 _ _ p (nl (0)) _ 25 (show v 7 = _ from e1) (show v 5 = _ from d5) (e3 hti) (szN 0) (rfl) (one_nl _) (fun w' h1 h2 => ?_)
      exact ⟨h1.below hB8 (by omega), Nat.le_trans hsz h1.size, keepE (by decide) k0, keepE (by decide) k1, keepE (by decide) k2, keepE (by decide) k3, keepE (by decide) k4, keepE (by decide) k5, keepE (by decide) k6, (fun ht => ⟨p, e1, e2, Nat.lt_of_lt_of_le e5 h1.size, (fun h7 => by have h8 := setB_self t 8; rw [h7] at h8; cases h8), fun _ => h2⟩), (fun _ => ht6), keepE (by decide) k9⟩
    · obtain rfl := Option.some.inj ho
      have d6 := k6 (hall ⟨6, .data⟩ (by simp) rfl)
      refine g_assign _ _ (show v 6 = _ from d6) ?_
      exact ⟨hB8, hsz, keepE (by decide) k0, keepE (by decide) k1, keepE (by decide) k2, keepE (by decide) k3, keepE (by decide) k4, keepE (by decide) k5, keepE (by decide) k6, k7, k8, newE rfl⟩
    · simp at ho
  · simp only [full, Act.put, List.setIfInBounds_toArray, List.set_cons_succ, List.set_cons_zero, Nat.zero_add, Nat.reduceAdd]
    intro t v w3 hS ht
    obtain ⟨hB8, hsz, k0, k1, k2, k3, k4, k5, k6, k7, k8, k9⟩ := hS
    obtain ⟨p1_7, e7, g7, -, -, f7⟩ := k7 (ht 7 (by decide)); replace f7 := f7 (ht 8 (by decide))
    rw [e7]
    have d0 := k0 (ht 0 (by decide)); (try rw [d0])
    have d1 := k1 (ht 1 (by decide)); (try rw [d1])
    have d2 := k2 (ht 2 (by decide)); (try rw [d2])
    have d3 := k3 (ht 3 (by decide)); (try rw [d3])
    have d4 := k4 (ht 4 (by decide)); (try rw [d4])
    have d5 := k5 (ht 5 (by decide)); (try rw [d5])
    have d6 := k6 (ht 6 (by decide)); (try rw [d6])
    have d9 := k9 (ht 9 (by decide)); (try rw [d9])
    clear d0 d1 d2 d3 d4 d5 d6 d9
    clear ht k0 k1 k2 k3 k4 k5 k6 k7 k8 k9 e7 
    generalize v 8 = x8
    have b_p := f7
    clear f7
    have o_p : w.heap.size < p1_7 := Nat.lt_of_lt_of_le b_m.lt g7
    have l_p : w.heap.size ≤ p1_7 := Nat.le_trans hB.size g7
    clear g7
    replace b_m := b_m.below hB8 b_m.lt
    replace hB := hB.trans (hB8.mono hB.size)
    clear hB8
    clear hsz
    go_wp2_with fail
    go_ret
    exact ⟨rfl, hB⟩

set_option maxRecDepth 10000 in
set_option maxHeartbeats 4000000 in
theorem walk2 (m : Int) (f : Int) (w_m : In128 m) (w_f : In64 f) (w : World) (G L : Int) (hf : ¬ f = -9223372036854775808) (jf : In128 f) (ip : In128 G) (hp : Hid (m + f = G)) (hL : Hid (m % 18446744073709551616 = L)) (hr : Hid (nr L G = m)) (hd : Hid (G - m = f)) :
    Calls Try.prog 6 #[.agg (nl m).toArray, .int .i64 f] w fun e w' => e = .returned (.bool true) ∧ Below w.heap.size w w' := by
  go_enter Try.func6, Try.ntmps6
  go_wp2_with (first
    | ((with_reducible refine at_boxD 2 25 ?_); refine L_box 25 _ (nl (m)) rfl ?_; intro w1 t_ b_m; have l_m : w.heap.size ≤ w.heap.size := Nat.le_refl _; have hB : Below w.heap.size w w1 := t_.below (Below.refl _ _) (Nat.le_refl _); clear t_))
  refine (awake_any w1).mono ?_
  rintro e w2 ⟨rfl, t_⟩
  replace b_m := b_m.below t_ b_m.lt
  replace hB := hB.trans (t_.mono hB.size)
  clear t_
  go_wp2_with (first
    | ((with_reducible refine at_binD 14 ?_); refine L_give (by rfl) (g_ieq 2 _ _ .i64 _ _ false rfl rfl (decide_eq_false hf) ?_))
    | ((with_reducible refine stop_region 5 ?_); intro X1 hX1))
  refine hX1.out ?_
  clear hX1
  refine wp_region_inv (by kernel_rfl) (by kernel_rfl) (fun t v wx => Below (w2.heap.size) w2 wx ∧ w2.heap.size ≤ wx.heap.size ∧ (t 0 = true → v 0 = .agg (nl (m)).toArray) ∧ (t 1 = true → v 1 = .int .i64 (f)) ∧ (t 2 = true → v 2 = .agg (nl (f)).toArray) ∧ (t 3 = true → v 3 = .tuple #[.agg (nl (G)).toArray, .int .i64 (0)]) ∧ (t 4 = true → v 4 = .tuple #[.agg (nl (G)).toArray, .int .i64 (0)]) ∧ (t 5 = true → v 5 = .agg (nl (G)).toArray) ∧ (t 6 = true → v 6 = .int .i64 (0)) ∧ (t 7 = true → ∃ p, v 7 = .pointer (some ⟨p, 0, none⟩) ∧ w2.heap.size ≤ p ∧ p < wx.heap.size ∧ (t 8 = false → Blk wx p (nl (0)) 25) ∧ (t 8 = true → Blk wx p (nl (G)) 25)) ∧ (t 8 = true → t 7 = true) ∧ (t 9 = true → v 9 = .int .i64 (0))) ?_ ?_ ?_
  · exact ⟨(Below.refl _ _).drew, Nat.le_refl _, (fun h => by cases h), (fun h => by cases h), (fun h => by cases h), (fun h => by cases h), (fun h => by cases h), (fun h => by cases h), (fun h => by cases h), (fun h => by cases h), (fun h => by cases h), (fun h => by cases h)⟩
  · simp only [full, Act.put, List.setIfInBounds_toArray, List.set_cons_succ, List.set_cons_zero, Nat.zero_add, Nat.reduceAdd]
    intro i o ho t v wx hS hti hall
    obtain ⟨hB8, hsz, k0, k1, k2, k3, k4, k5, k6, k7, k8, k9⟩ := hS
    have hnw : w2.heap.size ≤ wx.heap.size := Nat.le_trans (by omega) hsz
    rcases i with _ | _ | _ | _ | _ | _ | _ | _ | _ | _ | i
    · obtain rfl := Option.some.inj ho
      refine g_load_all 25 _ (w.heap.size) (nl (m)) 25 _ rfl (b_m.below hB8 b_m.lt) Try.underlying25 rfl (szN 0) ?_
      exact ⟨hB8, hsz, newE rfl, keepE (by decide) k1, keepE (by decide) k2, keepE (by decide) k3, keepE (by decide) k4, keepE (by decide) k5, keepE (by decide) k6, k7, k8, keepE (by decide) k9⟩
    · obtain rfl := Option.some.inj ho
      refine g_move _ _ rfl ?_
      exact ⟨hB8, hsz, keepE (by decide) k0, newE rfl, keepE (by decide) k2, keepE (by decide) k3, keepE (by decide) k4, keepE (by decide) k5, keepE (by decide) k6, k7, k8, keepE (by decide) k9⟩
    · obtain rfl := Option.some.inj ho
      have d1 := k1 (hall ⟨1, .data⟩ (by simp) rfl)
      refine g_call 31 _ _ [.int .i64 (f)] (kf31 _ _) (by show ([v 1] : List Value) = _; rw [d1]; (try rfl)) ((of_any f wx w_f).mono ?_)
      rintro e w' ⟨rfl, hb⟩
      exact ⟨_, rfl, hB8.trans (hb.mono hnw), Nat.le_trans hsz hb.size, keepE (by decide) k0, keepE (by decide) k1, newE rfl, keepE (by decide) k3, keepE (by decide) k4, keepE (by decide) k5, keepE (by decide) k6, (fun ht => by obtain ⟨p, e1, e2, e5, e3, e4⟩ := k7 ht; exact ⟨p, e1, e2, Nat.lt_of_lt_of_le e5 hb.size, fun h7 => (e3 h7).below hb e5, fun h7 => (e4 h7).below hb e5⟩), k8, keepE (by decide) k9⟩
    · obtain rfl := Option.some.inj ho
      have d0 := k0 (hall ⟨0, .data⟩ (by simp) rfl)
      have d2 := k2 (hall ⟨2, .data⟩ (by simp) rfl)
      refine g_call 30 _ _ [.agg (nl (m)).toArray, .agg (nl (f)).toArray] (kf30 _ _) (by show ([v 0, v 2] : List Value) = _; rw [d0, d2]; (try rfl)) ((add_l m f G wx w_m jf ip hp).mono ?_)
      rintro e w' ⟨rfl, hb⟩
      exact ⟨_, rfl, hB8.trans (hb.mono hnw), Nat.le_trans hsz hb.size, keepE (by decide) k0, keepE (by decide) k1, keepE (by decide) k2, newE rfl, keepE (by decide) k4, keepE (by decide) k5, keepE (by decide) k6, (fun ht => by obtain ⟨p, e1, e2, e5, e3, e4⟩ := k7 ht; exact ⟨p, e1, e2, Nat.lt_of_lt_of_le e5 hb.size, fun h7 => (e3 h7).below hb e5, fun h7 => (e4 h7).below hb e5⟩), k8, keepE (by decide) k9⟩
    · obtain rfl := Option.some.inj ho
      have d3 := k3 (hall ⟨3, .data⟩ (by simp) rfl)
      refine g_move _ _ (show v 3 = _ from d3) ?_
      exact ⟨hB8, hsz, keepE (by decide) k0, keepE (by decide) k1, keepE (by decide) k2, keepE (by decide) k3, newE rfl, keepE (by decide) k5, keepE (by decide) k6, k7, k8, keepE (by decide) k9⟩
    · obtain rfl := Option.some.inj ho
      have d4 := k4 (hall ⟨4, .data⟩ (by simp) rfl)
      refine g_extract _ _ 0 _ (show v 4 = _ from d4) rfl ?_
      exact ⟨hB8, hsz, keepE (by decide) k0, keepE (by decide) k1, keepE (by decide) k2, keepE (by decide) k3, keepE (by decide) k4, newE rfl, keepE (by decide) k6, k7, k8, keepE (by decide) k9⟩
    · obtain rfl := Option.some.inj ho
      have d4 := k4 (hall ⟨4, .data⟩ (by simp) rfl)
      refine g_extract _ _ 1 _ (show v 4 = _ from d4) rfl ?_
      exact ⟨hB8, hsz, keepE (by decide) k0, keepE (by decide) k1, keepE (by decide) k2, keepE (by decide) k3, keepE (by decide) k4, keepE (by decide) k5, newE rfl, k7, k8, keepE (by decide) k9⟩
    · obtain rfl := Option.some.inj ho
      refine g_alloc 25 _ zeroN (fun w' h1 h2 => ?_)
      exact ⟨h1.below hB8 hnw, Nat.le_trans hsz h1.size, keepE (by decide) k0, keepE (by decide) k1, keepE (by decide) k2, keepE (by decide) k3, keepE (by decide) k4, keepE (by decide) k5, keepE (by decide) k6, (fun ht => ⟨wx.heap.size, setV_self _ _ _, hsz, h2.lt, fun _ => h2, fun h7 => by have h6 := k8 h7; rw [hti] at h6; cases h6⟩), (fun _ => setB_self _ _), keepE (by decide) k9⟩
    · obtain rfl := Option.some.inj ho
      have ht6 := hall ⟨7, .data⟩ (by simp) rfl
      have d5 := k5 (hall ⟨5, .data⟩ (by simp) rfl)
      obtain ⟨p, e1, e2, e5, e3, e4⟩ := k7 ht6
      refine g_store_all 25 _ _ p (nl (G)) _ 25 (show v 7 = _ from e1) (show v 5 = _ from d5) (e3 hti) (szN 0) (rfl) (one_nl _) (fun w' h1 h2 => ?_)
      exact ⟨h1.below hB8 (by omega), Nat.le_trans hsz h1.size, keepE (by decide) k0, keepE (by decide) k1, keepE (by decide) k2, keepE (by decide) k3, keepE (by decide) k4, keepE (by decide) k5, keepE (by decide) k6, (fun ht => ⟨p, e1, e2, Nat.lt_of_lt_of_le e5 h1.size, (fun h7 => by have h8 := setB_self t 8; rw [h7] at h8; cases h8), fun _ => h2⟩), (fun _ => ht6), keepE (by decide) k9⟩
    · obtain rfl := Option.some.inj ho
      have d6 := k6 (hall ⟨6, .data⟩ (by simp) rfl)
      refine g_assign _ _ (show v 6 = _ from d6) ?_
      exact ⟨hB8, hsz, keepE (by decide) k0, keepE (by decide) k1, keepE (by decide) k2, keepE (by decide) k3, keepE (by decide) k4, keepE (by decide) k5, keepE (by decide) k6, k7, k8, newE rfl⟩
    · simp at ho
  · simp only [full, Act.put, List.setIfInBounds_toArray, List.set_cons_succ, List.set_cons_zero, Nat.zero_add, Nat.reduceAdd]
    intro t v w3 hS ht
    obtain ⟨hB8, hsz, k0, k1, k2, k3, k4, k5, k6, k7, k8, k9⟩ := hS
    obtain ⟨p1_7, e7, g7, -, -, f7⟩ := k7 (ht 7 (by decide)); replace f7 := f7 (ht 8 (by decide))
    rw [e7]
    have d0 := k0 (ht 0 (by decide)); (try rw [d0])
    have d1 := k1 (ht 1 (by decide)); (try rw [d1])
    have d2 := k2 (ht 2 (by decide)); (try rw [d2])
    have d3 := k3 (ht 3 (by decide)); (try rw [d3])
    have d4 := k4 (ht 4 (by decide)); (try rw [d4])
    have d5 := k5 (ht 5 (by decide)); (try rw [d5])
    have d6 := k6 (ht 6 (by decide)); (try rw [d6])
    have d9 := k9 (ht 9 (by decide)); (try rw [d9])
    clear d0 d1 d2 d3 d4 d5 d6 d9
    clear ht k0 k1 k2 k3 k4 k5 k6 k7 k8 k9 e7 
    generalize v 8 = x8
    have b_p := f7
    clear f7
    have o_p : w.heap.size < p1_7 := Nat.lt_of_lt_of_le b_m.lt g7
    have l_p : w.heap.size ≤ p1_7 := Nat.le_trans hB.size g7
    clear g7
    replace b_m := b_m.below hB8 b_m.lt
    replace hB := hB.trans (hB8.mono hB.size)
    clear hB8
    clear hsz
    go_wp2_with (first
      | ((with_reducible refine stop_region 8 ?_); intro X2 hX2))
    refine hX2.out ?_
    clear hX2
    refine wp_region_inv (by kernel_rfl) (by kernel_rfl) (fun t v wx => Below (w3.heap.size) w3 wx ∧ w3.heap.size ≤ wx.heap.size ∧ (t 0 = true → v 0 = .agg (nl (m)).toArray) ∧ (t 1 = true → v 1 = .int .u64 (L)) ∧ (t 2 = true → v 2 = .agg (nl (G)).toArray) ∧ (t 3 = true → v 3 = .tuple #[.agg (nl (m)).toArray, .int .i64 (0)]) ∧ (t 4 = true → v 4 = .tuple #[.agg (nl (m)).toArray, .int .i64 (0)]) ∧ (t 5 = true → v 5 = .agg (nl (m)).toArray) ∧ (t 6 = true → v 6 = .int .i64 (0)) ∧ (t 7 = true → ∃ p, v 7 = .pointer (some ⟨p, 0, none⟩) ∧ w3.heap.size ≤ p ∧ p < wx.heap.size ∧ (t 8 = false → Blk wx p (nl (0)) 25) ∧ (t 8 = true → Blk wx p (nl (m)) 25)) ∧ (t 8 = true → t 7 = true) ∧ (t 9 = true → v 9 = .int .i64 (0))) ?_ ?_ ?_
    · exact ⟨(Below.refl _ _).drew, Nat.le_refl _, (fun h => by cases h), (fun h => by cases h), (fun h => by cases h), (fun h => by cases h), (fun h => by cases h), (fun h => by cases h), (fun h => by cases h), (fun h => by cases h), (fun h => by cases h), (fun h => by cases h)⟩
    · simp only [full, Act.put, List.setIfInBounds_toArray, List.set_cons_succ, List.set_cons_zero, Nat.zero_add, Nat.reduceAdd]
      intro i o ho t v wx hS hti hall
      obtain ⟨hB8, hsz, k0, k1, k2, k3, k4, k5, k6, k7, k8, k9⟩ := hS
      have hnw : w3.heap.size ≤ wx.heap.size := Nat.le_trans (by omega) hsz
      rcases i with _ | _ | _ | _ | _ | _ | _ | _ | _ | _ | i
      · obtain rfl := Option.some.inj ho
        refine g_load_all 25 _ (w.heap.size) (nl (m)) 25 _ rfl (b_m.below hB8 b_m.lt) Try.underlying25 rfl (szN 0) ?_
        exact ⟨hB8, hsz, newE rfl, keepE (by decide) k1, keepE (by decide) k2, keepE (by decide) k3, keepE (by decide) k4, keepE (by decide) k5, keepE (by decide) k6, k7, k8, keepE (by decide) k9⟩
      · obtain rfl := Option.some.inj ho
        have d0 := k0 (hall ⟨0, .data⟩ (by simp) rfl)
        refine g_call 22 _ _ [.agg (nl (m)).toArray] (kf22 _ _) (by show ([v 0] : List Value) = _; rw [d0]; (try rfl)) ((fold_any m L wx hL.out).mono ?_)
        rintro e w' ⟨rfl, hb⟩
        exact ⟨_, rfl, hB8.trans (hb.mono hnw), Nat.le_trans hsz hb.size, keepE (by decide) k0, newE rfl, keepE (by decide) k2, keepE (by decide) k3, keepE (by decide) k4, keepE (by decide) k5, keepE (by decide) k6, (fun ht => by obtain ⟨p, e1, e2, e5, e3, e4⟩ := k7 ht; exact ⟨p, e1, e2, Nat.lt_of_lt_of_le e5 hb.size, fun h7 => (e3 h7).below hb e5, fun h7 => (e4 h7).below hb e5⟩), k8, keepE (by decide) k9⟩
      · obtain rfl := Option.some.inj ho
        refine g_load_all 25 _ (p1_7) (nl (G)) 25 _ rfl (b_p.below hB8 b_p.lt) Try.underlying25 rfl (szN 0) ?_
        exact ⟨hB8, hsz, keepE (by decide) k0, keepE (by decide) k1, newE rfl, keepE (by decide) k3, keepE (by decide) k4, keepE (by decide) k5, keepE (by decide) k6, k7, k8, keepE (by decide) k9⟩
      · obtain rfl := Option.some.inj ho
        have d1 := k1 (hall ⟨1, .data⟩ (by simp) rfl)
        have d2 := k2 (hall ⟨2, .data⟩ (by simp) rfl)
        refine g_call 12 _ _ [.int .u64 (L), .agg (nl (G)).toArray] (kf12 _ _) (by show ([v 1, v 2] : List Value) = _; rw [d1, d2]; (try rfl)) ((near_ok L G m wx ip hr w_m).mono ?_)
        rintro e w' ⟨rfl, hb⟩
        exact ⟨_, rfl, hB8.trans (hb.mono hnw), Nat.le_trans hsz hb.size, keepE (by decide) k0, keepE (by decide) k1, keepE (by decide) k2, newE rfl, keepE (by decide) k4, keepE (by decide) k5, keepE (by decide) k6, (fun ht => by obtain ⟨p, e1, e2, e5, e3, e4⟩ := k7 ht; exact ⟨p, e1, e2, Nat.lt_of_lt_of_le e5 hb.size, fun h7 => (e3 h7).below hb e5, fun h7 => (e4 h7).below hb e5⟩), k8, keepE (by decide) k9⟩
      · obtain rfl := Option.some.inj ho
        have d3 := k3 (hall ⟨3, .data⟩ (by simp) rfl)
        refine g_move _ _ (show v 3 = _ from d3) ?_
        exact ⟨hB8, hsz, keepE (by decide) k0, keepE (by decide) k1, keepE (by decide) k2, keepE (by decide) k3, newE rfl, keepE (by decide) k5, keepE (by decide) k6, k7, k8, keepE (by decide) k9⟩
      · obtain rfl := Option.some.inj ho
        have d4 := k4 (hall ⟨4, .data⟩ (by simp) rfl)
        refine g_extract _ _ 0 _ (show v 4 = _ from d4) rfl ?_
        exact ⟨hB8, hsz, keepE (by decide) k0, keepE (by decide) k1, keepE (by decide) k2, keepE (by decide) k3, keepE (by decide) k4, newE rfl, keepE (by decide) k6, k7, k8, keepE (by decide) k9⟩
      · obtain rfl := Option.some.inj ho
        have d4 := k4 (hall ⟨4, .data⟩ (by simp) rfl)
        refine g_extract _ _ 1 _ (show v 4 = _ from d4) rfl ?_
        exact ⟨hB8, hsz, keepE (by decide) k0, keepE (by decide) k1, keepE (by decide) k2, keepE (by decide) k3, keepE (by decide) k4, keepE (by decide) k5, newE rfl, k7, k8, keepE (by decide) k9⟩
      · obtain rfl := Option.some.inj ho
        refine g_alloc 25 _ zeroN (fun w' h1 h2 => ?_)
        exact ⟨h1.below hB8 hnw, Nat.le_trans hsz h1.size, keepE (by decide) k0, keepE (by decide) k1, keepE (by decide) k2, keepE (by decide) k3, keepE (by decide) k4, keepE (by decide) k5, keepE (by decide) k6, (fun ht => ⟨wx.heap.size, setV_self _ _ _, hsz, h2.lt, fun _ => h2, fun h7 => by have h6 := k8 h7; rw [hti] at h6; cases h6⟩), (fun _ => setB_self _ _), keepE (by decide) k9⟩
      · obtain rfl := Option.some.inj ho
        have ht6 := hall ⟨7, .data⟩ (by simp) rfl
        have d5 := k5 (hall ⟨5, .data⟩ (by simp) rfl)
        obtain ⟨p, e1, e2, e5, e3, e4⟩ := k7 ht6
        refine g_store_all 25 _ _ p (nl (m)) _ 25 (show v 7 = _ from e1) (show v 5 = _ from d5) (e3 hti) (szN 0) (rfl) (one_nl _) (fun w' h1 h2 => ?_)
        exact ⟨h1.below hB8 (by omega), Nat.le_trans hsz h1.size, keepE (by decide) k0, keepE (by decide) k1, keepE (by decide) k2, keepE (by decide) k3, keepE (by decide) k4, keepE (by decide) k5, keepE (by decide) k6, (fun ht => ⟨p, e1, e2, Nat.lt_of_lt_of_le e5 h1.size, (fun h7 => by have h8 := setB_self t 8; rw [h7] at h8; cases h8), fun _ => h2⟩), (fun _ => ht6), keepE (by decide) k9⟩
      · obtain rfl := Option.some.inj ho
        have d6 := k6 (hall ⟨6, .data⟩ (by simp) rfl)
        refine g_assign _ _ (show v 6 = _ from d6) ?_
        exact ⟨hB8, hsz, keepE (by decide) k0, keepE (by decide) k1, keepE (by decide) k2, keepE (by decide) k3, keepE (by decide) k4, keepE (by decide) k5, keepE (by decide) k6, k7, k8, newE rfl⟩
      · simp at ho
    · simp only [full, Act.put, List.setIfInBounds_toArray, List.set_cons_succ, List.set_cons_zero, Nat.zero_add, Nat.reduceAdd]
      intro t v w4 hS ht
      obtain ⟨hB8, hsz, k0, k1, k2, k3, k4, k5, k6, k7, k8, k9⟩ := hS
      obtain ⟨p2_7, e7, g7, -, -, f7⟩ := k7 (ht 7 (by decide)); replace f7 := f7 (ht 8 (by decide))
      rw [e7]
      have d0 := k0 (ht 0 (by decide)); (try rw [d0])
      have d1 := k1 (ht 1 (by decide)); (try rw [d1])
      have d2 := k2 (ht 2 (by decide)); (try rw [d2])
      have d3 := k3 (ht 3 (by decide)); (try rw [d3])
      have d4 := k4 (ht 4 (by decide)); (try rw [d4])
      have d5 := k5 (ht 5 (by decide)); (try rw [d5])
      have d6 := k6 (ht 6 (by decide)); (try rw [d6])
      have d9 := k9 (ht 9 (by decide)); (try rw [d9])
      clear d0 d1 d2 d3 d4 d5 d6 d9
      clear ht k0 k1 k2 k3 k4 k5 k6 k7 k8 k9 e7 
      generalize v 8 = x8
      have b_n := f7
      clear f7
      have o_n : p1_7 < p2_7 := Nat.lt_of_lt_of_le b_p.lt g7
      have l_n : w.heap.size ≤ p2_7 := Nat.le_trans hB.size g7
      clear g7
      replace b_m := b_m.below hB8 b_m.lt
      replace b_p := b_p.below hB8 b_p.lt
      replace hB := hB.trans (hB8.mono hB.size)
      clear hB8
      clear hsz
      go_wp2_with (first
        | ((with_reducible refine at_loadD 32 25 ?_); refine L_load_all 25 _ (p1_7) (nl (G)) 25 _ rfl b_p Try.underlying25 rfl (szN 0) ?_)
        | ((with_reducible refine at_loadD 33 25 ?_); refine L_load_all 25 _ (w.heap.size) (nl (m)) 25 _ rfl b_m Try.underlying25 rfl (szN 0) ?_))
      refine (since_ok G m f w4 ip w_m hd w_f).mono ?_
      rintro e w5 ⟨rfl, t_⟩
      replace b_m := b_m.below t_ b_m.lt
      replace b_p := b_p.below t_ b_p.lt
      replace b_n := b_n.below t_ b_n.lt
      replace hB := hB.trans (t_.mono hB.size)
      clear t_
      go_wp2_with (first
        | ((with_reducible refine at_loadDG 40 ?_); refine L_give (by rfl) (g_load_all 25 _ (p2_7) (nl (m)) 25 _ rfl b_n Try.underlying25 rfl (szN 0) ?_))
        | ((with_reducible refine at_loadDG 41 ?_); refine L_give (by rfl) (g_load_all 25 _ (w.heap.size) (nl (m)) 25 _ rfl b_m Try.underlying25 rfl (szN 0) ?_))
        | ((with_reducible refine at_binD 42 ?_); refine L_give (by rfl) (g_eqlN _ _ (m) (m) true rfl rfl (decide_eq_true rfl) ?_)))
      go_ret
      exact ⟨rfl, hB⟩

theorem walk (m : Int) (f : Int) (w_m : In128 m) (w_f : In64 f) (w : World) :
    Calls Try.prog 6 #[.agg (nl m).toArray, .int .i64 f] w fun e w' => e = .returned (.bool true) ∧ Below w.heap.size w w' := by
  by_cases hf : f = -9223372036854775808
  · subst hf; exact walk0 m w_m w
  by_cases ho : In128 (m + f)
  · refine walk2 m f w_m w_f w (m + f) _ hf (In64.to f w_f) ho rfl rfl ?_ ?_
    · have := w_f
      unfold In64 at this
      show nr _ _ = m
      unfold nr
      split <;> omega
    · show _ = _; omega
  · exact walk1 m f w_m w_f w hf (In64.to f w_f) ho

end Go.Proofs.Ytpeiboehdjhimaa.stampBack
