/- WidePart: the walk. -/
import Derived.Test.YtkgcnbmnhbmdiaaWide6
namespace Go.Proofs.Ytkgcnbmnhbmdiaa.widePart
open Go Go.RowKit
set_option linter.unusedVariables false

set_option maxRecDepth 10000 in
set_option maxHeartbeats 4000000 in
theorem walk11 (a : Int) (b : Int) (w_a : In64 a) (w_b : In64 b) (w : World) (M : Int) (hM : Hid (a * b = M)) (hf : In64 M) (hb : b < 1) :
    Calls Try.prog 9 #[.int .i64 a, .int .i64 b] w fun e w' => e = .returned (.bool true) ∧ Below w.heap.size w w' := by
  have hM1 : Hid (M / 1 = M) := Int.ediv_one M
  go_enter Try.func9, Try.ntmps9
  go_wp2_with fail
  refine (awake_any w).mono ?_
  rintro e w1 ⟨rfl, t_⟩
  have hB := t_
  clear t_
  go_wp2_with fail
  refine (part_ok a b 1 M M hM w1 w_a w_b (by omega) (by omega) hM1 hf).mono ?_
  rintro e w2 ⟨rfl, t_⟩
  replace hB := hB.trans (t_.mono hB.size)
  clear t_
  go_wp2_with fail
  refine (times_l a b M hM w2 w_a w_b).mono ?_
  rintro e w3 ⟨rfl, t_⟩
  replace hB := hB.trans (t_.mono hB.size)
  clear t_
  go_wp2_with fail
  refine (int_ok M w3 hf).mono ?_
  rintro e w4 ⟨rfl, t_⟩
  replace hB := hB.trans (t_.mono hB.size)
  clear t_
  go_wp2_with (first
    | ((with_reducible refine at_binD 35 ?_); refine L_give (by rfl) (g_ilss 2 _ _ .i64 _ _ true rfl rfl (decide_eq_true hb) ?_)))
  go_ret
  exact ⟨rfl, hB⟩

set_option maxRecDepth 10000 in
set_option maxHeartbeats 4000000 in
theorem walk10 (a : Int) (b : Int) (w_a : In64 a) (w_b : In64 b) (w : World) (M : Int) (hM : Hid (a * b = M)) (hf : In64 M) (hb : ¬ b < 1) :
    Calls Try.prog 9 #[.int .i64 a, .int .i64 b] w fun e w' => e = .returned (.bool true) ∧ Below w.heap.size w w' := by
  have hM1 : Hid (M / 1 = M) := Int.ediv_one M
  have hMa : Hid (M / b = a) := by
    show _ = _
    rw [← hM.out]
    exact Int.mul_ediv_cancel a (by omega)
  go_enter Try.func9, Try.ntmps9
  go_wp2_with fail
  refine (awake_any w).mono ?_
  rintro e w1 ⟨rfl, t_⟩
  have hB := t_
  clear t_
  go_wp2_with fail
  refine (part_ok a b 1 M M hM w1 w_a w_b (by omega) (by omega) hM1 hf).mono ?_
  rintro e w2 ⟨rfl, t_⟩
  replace hB := hB.trans (t_.mono hB.size)
  clear t_
  go_wp2_with fail
  refine (times_l a b M hM w2 w_a w_b).mono ?_
  rintro e w3 ⟨rfl, t_⟩
  replace hB := hB.trans (t_.mono hB.size)
  clear t_
  go_wp2_with fail
  refine (int_ok M w3 hf).mono ?_
  rintro e w4 ⟨rfl, t_⟩
  replace hB := hB.trans (t_.mono hB.size)
  clear t_
  go_wp2_with (first
    | ((with_reducible refine at_binD 35 ?_); refine L_give (by rfl) (g_ilss 2 _ _ .i64 _ _ false rfl rfl (decide_eq_false hb) ?_)))
  refine (part_ok a b b M a hM w4 w_a w_b (by omega) (by have := w_b.2; omega) hMa w_a).mono ?_
  rintro e w5 ⟨rfl, t_⟩
  replace hB := hB.trans (t_.mono hB.size)
  clear t_
  go_wp2_with fail
  go_ret
  exact ⟨rfl, hB⟩

set_option maxRecDepth 10000 in
set_option maxHeartbeats 4000000 in
theorem walk01 (a : Int) (b : Int) (w_a : In64 a) (w_b : In64 b) (w : World) (M : Int) (hM : Hid (a * b = M)) (hf : ¬ In64 M) (hb : b < 1) :
    Calls Try.prog 9 #[.int .i64 a, .int .i64 b] w fun e w' => e = .returned (.bool true) ∧ Below w.heap.size w w' := by
  have hM1 : Hid (M / 1 = M) := Int.ediv_one M
  go_enter Try.func9, Try.ntmps9
  go_wp2_with fail
  refine (awake_any w).mono ?_
  rintro e w1 ⟨rfl, t_⟩
  have hB := t_
  clear t_
  go_wp2_with fail
  refine (part_over a b 1 M M hM w1 w_a w_b (by omega) (by omega) hM1 hf).mono ?_
  rintro e w2 ⟨rfl, t_⟩
  replace hB := hB.trans (t_.mono hB.size)
  clear t_
  go_wp2_with fail
  refine (times_l a b M hM w2 w_a w_b).mono ?_
  rintro e w3 ⟨rfl, t_⟩
  replace hB := hB.trans (t_.mono hB.size)
  clear t_
  go_wp2_with fail
  refine (int_over M w3 hf).mono ?_
  rintro e w4 ⟨rfl, t_⟩
  replace hB := hB.trans (t_.mono hB.size)
  clear t_
  go_wp2_with (first
    | ((with_reducible refine at_binD 35 ?_); refine L_give (by rfl) (g_ilss 2 _ _ .i64 _ _ true rfl rfl (decide_eq_true hb) ?_)))
  go_ret
  exact ⟨rfl, hB⟩

set_option maxRecDepth 10000 in
set_option maxHeartbeats 4000000 in
theorem walk00 (a : Int) (b : Int) (w_a : In64 a) (w_b : In64 b) (w : World) (M : Int) (hM : Hid (a * b = M)) (hf : ¬ In64 M) (hb : ¬ b < 1) :
    Calls Try.prog 9 #[.int .i64 a, .int .i64 b] w fun e w' => e = .returned (.bool true) ∧ Below w.heap.size w w' := by
  have hM1 : Hid (M / 1 = M) := Int.ediv_one M
  have hMa : Hid (M / b = a) := by
    show _ = _
    rw [← hM.out]
    exact Int.mul_ediv_cancel a (by omega)
  go_enter Try.func9, Try.ntmps9
  go_wp2_with fail
  refine (awake_any w).mono ?_
  rintro e w1 ⟨rfl, t_⟩
  have hB := t_
  clear t_
  go_wp2_with fail
  refine (part_over a b 1 M M hM w1 w_a w_b (by omega) (by omega) hM1 hf).mono ?_
  rintro e w2 ⟨rfl, t_⟩
  replace hB := hB.trans (t_.mono hB.size)
  clear t_
  go_wp2_with fail
  refine (times_l a b M hM w2 w_a w_b).mono ?_
  rintro e w3 ⟨rfl, t_⟩
  replace hB := hB.trans (t_.mono hB.size)
  clear t_
  go_wp2_with fail
  refine (int_over M w3 hf).mono ?_
  rintro e w4 ⟨rfl, t_⟩
  replace hB := hB.trans (t_.mono hB.size)
  clear t_
  go_wp2_with (first
    | ((with_reducible refine at_binD 35 ?_); refine L_give (by rfl) (g_ilss 2 _ _ .i64 _ _ false rfl rfl (decide_eq_false hb) ?_)))
  refine (part_ok a b b M a hM w4 w_a w_b (by omega) (by have := w_b.2; omega) hMa w_a).mono ?_
  rintro e w5 ⟨rfl, t_⟩
  replace hB := hB.trans (t_.mono hB.size)
  clear t_
  go_wp2_with fail
  go_ret
  exact ⟨rfl, hB⟩

theorem walk (a : Int) (b : Int) (w_a : In64 a) (w_b : In64 b) (w : World) :
    Calls Try.prog 9 #[.int .i64 a, .int .i64 b] w fun e w' => e = .returned (.bool true) ∧ Below w.heap.size w w' := by
  by_cases hf : In64 (a * b) <;> by_cases hb : b < 1
  · exact walk11 a b w_a w_b w _ rfl hf hb
  · exact walk10 a b w_a w_b w _ rfl hf hb
  · exact walk01 a b w_a w_b w _ rfl hf hb
  · exact walk00 a b w_a w_b w _ rfl hf hb

end Go.Proofs.Ytkgcnbmnhbmdiaa.widePart
