/- WideOrder: the walk. -/
import Derived.Test.YtkgcnbmnhbmdiaaWide6
namespace Go.Proofs.Ytkgcnbmnhbmdiaa.wideOrder
open Go Go.RowKit
set_option linter.unusedVariables false
theorem cmp_pos (a b c : Int) (h : 0 < a) : cmpI (a * b) (a * c) = cmpI b c := by
  unfold cmpI
  have e1 : a * b < a * c ↔ b < c := Int.mul_lt_mul_left h
  have e2 : a * c < a * b ↔ c < b := Int.mul_lt_mul_left h
  simp only [e1, e2]
theorem cmp_neg (a b c : Int) (h : a < 0) : cmpI (a * b) (a * c) = - cmpI b c := by
  have e1 : a * b < a * c ↔ c < b := Int.mul_lt_mul_left_of_neg h
  have e2 : a * c < a * b ↔ b < c := Int.mul_lt_mul_left_of_neg h
  unfold cmpI
  simp only [e1, e2]
  repeat' split
  all_goals omega
theorem cmp_bound (b c : Int) : -1 ≤ cmpI b c ∧ cmpI b c ≤ 1 := by
  unfold cmpI
  repeat' split
  all_goals omega

set_option maxRecDepth 10000 in
set_option maxHeartbeats 4000000 in
theorem walk_z (a : Int) (b : Int) (c : Int) (w_a : In64 a) (w_b : In64 b) (w_c : In64 c) (w : World) (M K R V : Int) (hM : Hid (a * b = M)) (hK : Hid (a * c = K)) (hR : Hid (cmpI M K = R)) (hV : Hid (cmpI b c = V)) (hs : Hid (a = 0)) :
    Calls Try.prog 8 #[.int .i64 a, .int .i64 b, .int .i64 c] w fun e w' => e = .returned (.bool true) ∧ Below w.heap.size w w' := by
  have hM2 : Hid (b * a = M) := by show _ = _; rw [Int.mul_comm]; exact hM.out
  have hM3 : Hid (a * 1 = a) := Int.mul_one a
  have hM4 : Hid (a * 0 = 0) := Int.mul_zero a
  have hR0 : Hid (R = 0) := by
    show _ = _
    have h1 := hM.out; have h2 := hK.out; have h3 := hR.out
    rw [hs.out, Int.zero_mul] at h1 h2
    rw [← h3, ← h1, ← h2]; rfl
  go_enter Try.func8, Try.ntmps8
  go_wp2_with fail
  refine (awake_any w).mono ?_
  rintro e w1 ⟨rfl, t_⟩
  have hB := t_
  clear t_
  go_wp2_with fail
  refine (times_l a b M hM w1 w_a w_b).mono ?_
  rintro e w2 ⟨rfl, t_⟩
  replace hB := hB.trans (t_.mono hB.size)
  clear t_
  go_wp2_with fail
  refine (times_l b a M hM2 w2 w_b w_a).mono ?_
  rintro e w3 ⟨rfl, t_⟩
  replace hB := hB.trans (t_.mono hB.size)
  clear t_
  go_wp2_with (first
    | ((with_reducible refine at_binD 17 ?_); refine L_give (by rfl) (g_neq24 _ _ (M) (M) true rfl rfl (decide_eq_true rfl) ?_)))
  refine (times_l a 1 a hM3 w3 w_a (by unfold In64; omega)).mono ?_
  rintro e w4 ⟨rfl, t_⟩
  replace hB := hB.trans (t_.mono hB.size)
  clear t_
  go_wp2_with fail
  refine (of_any a w4 w_a).mono ?_
  rintro e w5 ⟨rfl, t_⟩
  replace hB := hB.trans (t_.mono hB.size)
  clear t_
  go_wp2_with (first
    | ((with_reducible refine at_binD 23 ?_); refine L_give (by rfl) (g_neq24 _ _ (a) (a) true rfl rfl (decide_eq_true rfl) ?_)))
  refine (times_l a 0 0 hM4 w5 w_a (by unfold In64; omega)).mono ?_
  rintro e w6 ⟨rfl, t_⟩
  replace hB := hB.trans (t_.mono hB.size)
  clear t_
  go_wp2_with fail
  refine (of_any 0 w6 (by unfold In64; omega)).mono ?_
  rintro e w7 ⟨rfl, t_⟩
  replace hB := hB.trans (t_.mono hB.size)
  clear t_
  go_wp2_with (first
    | ((with_reducible refine at_binD 29 ?_); refine L_give (by rfl) (g_neq24 _ _ (0) (0) true rfl rfl (decide_eq_true rfl) ?_)))
  refine (times_l a b M hM w7 w_a w_b).mono ?_
  rintro e w8 ⟨rfl, t_⟩
  replace hB := hB.trans (t_.mono hB.size)
  clear t_
  go_wp2_with fail
  refine (times_l a c K hK w8 w_a w_c).mono ?_
  rintro e w9 ⟨rfl, t_⟩
  replace hB := hB.trans (t_.mono hB.size)
  clear t_
  go_wp2_with fail
  refine (cmp_any M K w9 R hR).mono ?_
  rintro e w10 ⟨rfl, t_⟩
  replace hB := hB.trans (t_.mono hB.size)
  clear t_
  go_wp2_with fail
  refine (of_any b w10 w_b).mono ?_
  rintro e w11 ⟨rfl, t_⟩
  replace hB := hB.trans (t_.mono hB.size)
  clear t_
  go_wp2_with fail
  refine (of_any c w11 w_c).mono ?_
  rintro e w12 ⟨rfl, t_⟩
  replace hB := hB.trans (t_.mono hB.size)
  clear t_
  go_wp2_with fail
  refine (cmp_any b c w12 V hV).mono ?_
  rintro e w13 ⟨rfl, t_⟩
  replace hB := hB.trans (t_.mono hB.size)
  clear t_
  go_wp2_with (first
    | ((with_reducible refine at_binD 45 ?_); refine L_give (by rfl) (g_ieq 2 _ _ .i64 _ _ true rfl rfl (decide_eq_true hs.out) ?_))
    | ((with_reducible refine at_binD 53 ?_); refine L_give (by rfl) (g_ieq 3 _ _ .i64 _ _ true rfl rfl (decide_eq_true hR0.out) ?_)))
  go_ret
  exact ⟨rfl, hB⟩

set_option maxRecDepth 10000 in
set_option maxHeartbeats 4000000 in
theorem walk_n (a : Int) (b : Int) (c : Int) (w_a : In64 a) (w_b : In64 b) (w_c : In64 c) (w : World) (M K R V : Int) (hM : Hid (a * b = M)) (hK : Hid (a * c = K)) (hR : Hid (cmpI M K = R)) (hV : Hid (cmpI b c = V)) (hs : a < 0) :
    Calls Try.prog 8 #[.int .i64 a, .int .i64 b, .int .i64 c] w fun e w' => e = .returned (.bool true) ∧ Below w.heap.size w w' := by
  have hM2 : Hid (b * a = M) := by show _ = _; rw [Int.mul_comm]; exact hM.out
  have hM3 : Hid (a * 1 = a) := Int.mul_one a
  have hM4 : Hid (a * 0 = 0) := Int.mul_zero a
  have hn : IntKind.i64.wrap (-V) = R := by
    have h1 := hM.out; have h2 := hK.out; have h3 := hR.out; have h4 := hV.out
    rw [← h1, ← h2, cmp_neg a b c hs, h4] at h3
    have h5 := cmp_bound b c
    rw [h4] at h5
    rw [IntKind.wrap_i64]; omega
  go_enter Try.func8, Try.ntmps8
  go_wp2_with fail
  refine (awake_any w).mono ?_
  rintro e w1 ⟨rfl, t_⟩
  have hB := t_
  clear t_
  go_wp2_with fail
  refine (times_l a b M hM w1 w_a w_b).mono ?_
  rintro e w2 ⟨rfl, t_⟩
  replace hB := hB.trans (t_.mono hB.size)
  clear t_
  go_wp2_with fail
  refine (times_l b a M hM2 w2 w_b w_a).mono ?_
  rintro e w3 ⟨rfl, t_⟩
  replace hB := hB.trans (t_.mono hB.size)
  clear t_
  go_wp2_with (first
    | ((with_reducible refine at_binD 17 ?_); refine L_give (by rfl) (g_neq24 _ _ (M) (M) true rfl rfl (decide_eq_true rfl) ?_)))
  refine (times_l a 1 a hM3 w3 w_a (by unfold In64; omega)).mono ?_
  rintro e w4 ⟨rfl, t_⟩
  replace hB := hB.trans (t_.mono hB.size)
  clear t_
  go_wp2_with fail
  refine (of_any a w4 w_a).mono ?_
  rintro e w5 ⟨rfl, t_⟩
  replace hB := hB.trans (t_.mono hB.size)
  clear t_
  go_wp2_with (first
    | ((with_reducible refine at_binD 23 ?_); refine L_give (by rfl) (g_neq24 _ _ (a) (a) true rfl rfl (decide_eq_true rfl) ?_)))
  refine (times_l a 0 0 hM4 w5 w_a (by unfold In64; omega)).mono ?_
  rintro e w6 ⟨rfl, t_⟩
  replace hB := hB.trans (t_.mono hB.size)
  clear t_
  go_wp2_with fail
  refine (of_any 0 w6 (by unfold In64; omega)).mono ?_
  rintro e w7 ⟨rfl, t_⟩
  replace hB := hB.trans (t_.mono hB.size)
  clear t_
  go_wp2_with (first
    | ((with_reducible refine at_binD 29 ?_); refine L_give (by rfl) (g_neq24 _ _ (0) (0) true rfl rfl (decide_eq_true rfl) ?_)))
  refine (times_l a b M hM w7 w_a w_b).mono ?_
  rintro e w8 ⟨rfl, t_⟩
  replace hB := hB.trans (t_.mono hB.size)
  clear t_
  go_wp2_with fail
  refine (times_l a c K hK w8 w_a w_c).mono ?_
  rintro e w9 ⟨rfl, t_⟩
  replace hB := hB.trans (t_.mono hB.size)
  clear t_
  go_wp2_with fail
  refine (cmp_any M K w9 R hR).mono ?_
  rintro e w10 ⟨rfl, t_⟩
  replace hB := hB.trans (t_.mono hB.size)
  clear t_
  go_wp2_with fail
  refine (of_any b w10 w_b).mono ?_
  rintro e w11 ⟨rfl, t_⟩
  replace hB := hB.trans (t_.mono hB.size)
  clear t_
  go_wp2_with fail
  refine (of_any c w11 w_c).mono ?_
  rintro e w12 ⟨rfl, t_⟩
  replace hB := hB.trans (t_.mono hB.size)
  clear t_
  go_wp2_with fail
  refine (cmp_any b c w12 V hV).mono ?_
  rintro e w13 ⟨rfl, t_⟩
  replace hB := hB.trans (t_.mono hB.size)
  clear t_
  go_wp2_with (first
    | ((with_reducible refine at_binD 45 ?_); refine L_give (by rfl) (g_ieq 2 _ _ .i64 _ _ false rfl rfl (decide_eq_false (by omega)) ?_))
    | ((with_reducible refine at_binD 48 ?_); refine L_give (by rfl) (g_ilss 2 _ _ .i64 _ _ true rfl rfl (decide_eq_true (by omega)) ?_))
    | ((with_reducible refine at_binD 53 ?_); refine L_give (by rfl) (g_ieq 3 _ _ .i64 _ _ true rfl rfl (decide_eq_true rfl) ?_)))
  go_ret
  exact ⟨rfl, hB⟩

set_option maxRecDepth 10000 in
set_option maxHeartbeats 4000000 in
theorem walk_p (a : Int) (b : Int) (c : Int) (w_a : In64 a) (w_b : In64 b) (w_c : In64 c) (w : World) (M K R V : Int) (hM : Hid (a * b = M)) (hK : Hid (a * c = K)) (hR : Hid (cmpI M K = R)) (hV : Hid (cmpI b c = V)) (hs : 0 < a) :
    Calls Try.prog 8 #[.int .i64 a, .int .i64 b, .int .i64 c] w fun e w' => e = .returned (.bool true) ∧ Below w.heap.size w w' := by
  have hM2 : Hid (b * a = M) := by show _ = _; rw [Int.mul_comm]; exact hM.out
  have hM3 : Hid (a * 1 = a) := Int.mul_one a
  have hM4 : Hid (a * 0 = 0) := Int.mul_zero a
  have hVR : V = R := by
    have h1 := hM.out; have h2 := hK.out; have h3 := hR.out; have h4 := hV.out
    rw [← h1, ← h2, cmp_pos a b c hs, h4] at h3
    exact h3
  subst hVR
  go_enter Try.func8, Try.ntmps8
  go_wp2_with fail
  refine (awake_any w).mono ?_
  rintro e w1 ⟨rfl, t_⟩
  have hB := t_
  clear t_
  go_wp2_with fail
  refine (times_l a b M hM w1 w_a w_b).mono ?_
  rintro e w2 ⟨rfl, t_⟩
  replace hB := hB.trans (t_.mono hB.size)
  clear t_
  go_wp2_with fail
  refine (times_l b a M hM2 w2 w_b w_a).mono ?_
  rintro e w3 ⟨rfl, t_⟩
  replace hB := hB.trans (t_.mono hB.size)
  clear t_
  go_wp2_with (first
    | ((with_reducible refine at_binD 17 ?_); refine L_give (by rfl) (g_neq24 _ _ (M) (M) true rfl rfl (decide_eq_true rfl) ?_)))
  refine (times_l a 1 a hM3 w3 w_a (by unfold In64; omega)).mono ?_
  rintro e w4 ⟨rfl, t_⟩
  replace hB := hB.trans (t_.mono hB.size)
  clear t_
  go_wp2_with fail
  refine (of_any a w4 w_a).mono ?_
  rintro e w5 ⟨rfl, t_⟩
  replace hB := hB.trans (t_.mono hB.size)
  clear t_
  go_wp2_with (first
    | ((with_reducible refine at_binD 23 ?_); refine L_give (by rfl) (g_neq24 _ _ (a) (a) true rfl rfl (decide_eq_true rfl) ?_)))
  refine (times_l a 0 0 hM4 w5 w_a (by unfold In64; omega)).mono ?_
  rintro e w6 ⟨rfl, t_⟩
  replace hB := hB.trans (t_.mono hB.size)
  clear t_
  go_wp2_with fail
  refine (of_any 0 w6 (by unfold In64; omega)).mono ?_
  rintro e w7 ⟨rfl, t_⟩
  replace hB := hB.trans (t_.mono hB.size)
  clear t_
  go_wp2_with (first
    | ((with_reducible refine at_binD 29 ?_); refine L_give (by rfl) (g_neq24 _ _ (0) (0) true rfl rfl (decide_eq_true rfl) ?_)))
  refine (times_l a b M hM w7 w_a w_b).mono ?_
  rintro e w8 ⟨rfl, t_⟩
  replace hB := hB.trans (t_.mono hB.size)
  clear t_
  go_wp2_with fail
  refine (times_l a c K hK w8 w_a w_c).mono ?_
  rintro e w9 ⟨rfl, t_⟩
  replace hB := hB.trans (t_.mono hB.size)
  clear t_
  go_wp2_with fail
  refine (cmp_any M K w9 V hR).mono ?_
  rintro e w10 ⟨rfl, t_⟩
  replace hB := hB.trans (t_.mono hB.size)
  clear t_
  go_wp2_with fail
  refine (of_any b w10 w_b).mono ?_
  rintro e w11 ⟨rfl, t_⟩
  replace hB := hB.trans (t_.mono hB.size)
  clear t_
  go_wp2_with fail
  refine (of_any c w11 w_c).mono ?_
  rintro e w12 ⟨rfl, t_⟩
  replace hB := hB.trans (t_.mono hB.size)
  clear t_
  go_wp2_with fail
  refine (cmp_any b c w12 V hV).mono ?_
  rintro e w13 ⟨rfl, t_⟩
  replace hB := hB.trans (t_.mono hB.size)
  clear t_
  go_wp2_with (first
    | ((with_reducible refine at_binD 45 ?_); refine L_give (by rfl) (g_ieq 2 _ _ .i64 _ _ false rfl rfl (decide_eq_false (by omega)) ?_))
    | ((with_reducible refine at_binD 48 ?_); refine L_give (by rfl) (g_ilss 2 _ _ .i64 _ _ false rfl rfl (decide_eq_false (by omega)) ?_))
    | ((with_reducible refine at_binD 53 ?_); refine L_give (by rfl) (g_ieq 3 _ _ .i64 _ _ true rfl rfl (decide_eq_true rfl) ?_)))
  go_ret
  exact ⟨rfl, hB⟩

theorem walk (a : Int) (b : Int) (c : Int) (w_a : In64 a) (w_b : In64 b) (w_c : In64 c) (w : World) :
    Calls Try.prog 8 #[.int .i64 a, .int .i64 b, .int .i64 c] w fun e w' => e = .returned (.bool true) ∧ Below w.heap.size w w' := by
  rcases Int.lt_trichotomy a 0 with h | h | h
  · exact walk_n a b c w_a w_b w_c w _ _ _ _ rfl rfl rfl rfl h
  · exact walk_z a b c w_a w_b w_c w _ _ _ _ rfl rfl rfl rfl h
  · exact walk_p a b c w_a w_b w_c w _ _ _ _ rfl rfl rfl rfl h

end Go.Proofs.Ytkgcnbmnhbmdiaa.wideOrder
