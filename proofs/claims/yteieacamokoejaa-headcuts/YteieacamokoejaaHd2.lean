/- What the reference's May answers, and the program's number and fieldMay, the reference's num and below; the library's CutPrefix; nothing that was there is changed. -/
import Derived.Test.YteieacamokoejaaHd1
import Derived.Test.YteieacamokoejaaRef1
namespace Go.Proofs.Yteieacamokoejaa
open Go Go.RowKit
set_option linter.unusedVariables false

set_option maxRecDepth 10000 in
set_option maxHeartbeats 4000000 in
theorem rmay_0 (h : Hd) (w : World)  (c0 : ¬ (0 ≤ h.le)) : Calls Try.prog 17 #[.agg (hc h).toArray] w fun e w' => e = .returned (.bool false) ∧ Below w.heap.size w w' := by
  go_enter Try.func17, Try.ntmps17
  (try simp only [List.append_eq, List.cons_append, List.nil_append])
  go_wp2_with (first
    | ((with_reducible refine at_boxD 1 26 ?_); refine L_box 26 _ (hc h) rfl ?_; intro w1 t_ b_h; have hB : Below w.heap.size w w1 := t_.below (Below.refl _ _) (Nat.le_refl _); clear t_)
    | ((with_reducible refine at_loadD 4 3 ?_); refine L_give (by rfl) (g_cell3 _ (w.heap.size) 0 _ rfl (b_h.cell 0 _ rfl) ?_))
    | ((with_reducible refine at_binD 5 ?_); refine L_give (by rfl) (g_igeq 3 _ _ .i64 _ _ false rfl rfl (decide_eq_false c0) ?_)))
  go_ret
  exact ⟨rfl, hB⟩
set_option maxRecDepth 10000 in
set_option maxHeartbeats 4000000 in
theorem rmay_1 (h : Hd) (w : World) (c0 : 0 ≤ h.le) (c1 : ¬ (h.le < 4)) : Calls Try.prog 17 #[.agg (hc h).toArray] w fun e w' => e = .returned (.bool false) ∧ Below w.heap.size w w' := by
  go_enter Try.func17, Try.ntmps17
  (try simp only [List.append_eq, List.cons_append, List.nil_append])
  go_wp2_with (first
    | ((with_reducible refine at_boxD 1 26 ?_); refine L_box 26 _ (hc h) rfl ?_; intro w1 t_ b_h; have hB : Below w.heap.size w w1 := t_.below (Below.refl _ _) (Nat.le_refl _); clear t_)
    | ((with_reducible refine at_loadD 4 3 ?_); refine L_give (by rfl) (g_cell3 _ (w.heap.size) 0 _ rfl (b_h.cell 0 _ rfl) ?_))
    | ((with_reducible refine at_binD 5 ?_); refine L_give (by rfl) (g_igeq 3 _ _ .i64 _ _ true rfl rfl (decide_eq_true c0) ?_))
    | ((with_reducible refine at_loadD 8 3 ?_); refine L_give (by rfl) (g_cell3 _ (w.heap.size) 0 _ rfl (b_h.cell 0 _ rfl) ?_))
    | ((with_reducible refine at_binD 9 ?_); refine L_give (by rfl) (g_ilss 3 _ _ .i64 _ _ false rfl rfl (decide_eq_false c1) ?_)))
  go_ret
  exact ⟨rfl, hB⟩
set_option maxRecDepth 10000 in
set_option maxHeartbeats 4000000 in
theorem rmay_2 (h : Hd) (w : World) (c0 : 0 ≤ h.le) (c1 : h.le < 4) (c2 : ¬ (h.ve = 4)) : Calls Try.prog 17 #[.agg (hc h).toArray] w fun e w' => e = .returned (.bool false) ∧ Below w.heap.size w w' := by
  go_enter Try.func17, Try.ntmps17
  (try simp only [List.append_eq, List.cons_append, List.nil_append])
  go_wp2_with (first
    | ((with_reducible refine at_boxD 1 26 ?_); refine L_box 26 _ (hc h) rfl ?_; intro w1 t_ b_h; have hB : Below w.heap.size w w1 := t_.below (Below.refl _ _) (Nat.le_refl _); clear t_)
    | ((with_reducible refine at_loadD 4 3 ?_); refine L_give (by rfl) (g_cell3 _ (w.heap.size) 0 _ rfl (b_h.cell 0 _ rfl) ?_))
    | ((with_reducible refine at_binD 5 ?_); refine L_give (by rfl) (g_igeq 3 _ _ .i64 _ _ true rfl rfl (decide_eq_true c0) ?_))
    | ((with_reducible refine at_loadD 8 3 ?_); refine L_give (by rfl) (g_cell3 _ (w.heap.size) 0 _ rfl (b_h.cell 0 _ rfl) ?_))
    | ((with_reducible refine at_binD 9 ?_); refine L_give (by rfl) (g_ilss 3 _ _ .i64 _ _ true rfl rfl (decide_eq_true c1) ?_))
    | ((with_reducible refine at_loadD 13 3 ?_); refine L_give (by rfl) (g_cell3 _ (w.heap.size) 1 _ rfl (b_h.cell 1 _ rfl) ?_))
    | ((with_reducible refine at_binD 14 ?_); refine L_give (by rfl) (g_ieq 3 _ _ .i64 _ _ false rfl rfl (decide_eq_false c2) ?_)))
  go_ret
  exact ⟨rfl, hB⟩
set_option maxRecDepth 10000 in
set_option maxHeartbeats 4000000 in
theorem rmay_3 (h : Hd) (w : World) (c0 : 0 ≤ h.le) (c1 : h.le < 4) (c2 : h.ve = 4) (c3 : ¬ (0 ≤ h.mo)) : Calls Try.prog 17 #[.agg (hc h).toArray] w fun e w' => e = .returned (.bool false) ∧ Below w.heap.size w w' := by
  go_enter Try.func17, Try.ntmps17
  (try simp only [List.append_eq, List.cons_append, List.nil_append])
  go_wp2_with (first
    | ((with_reducible refine at_boxD 1 26 ?_); refine L_box 26 _ (hc h) rfl ?_; intro w1 t_ b_h; have hB : Below w.heap.size w w1 := t_.below (Below.refl _ _) (Nat.le_refl _); clear t_)
    | ((with_reducible refine at_loadD 4 3 ?_); refine L_give (by rfl) (g_cell3 _ (w.heap.size) 0 _ rfl (b_h.cell 0 _ rfl) ?_))
    | ((with_reducible refine at_binD 5 ?_); refine L_give (by rfl) (g_igeq 3 _ _ .i64 _ _ true rfl rfl (decide_eq_true c0) ?_))
    | ((with_reducible refine at_loadD 8 3 ?_); refine L_give (by rfl) (g_cell3 _ (w.heap.size) 0 _ rfl (b_h.cell 0 _ rfl) ?_))
    | ((with_reducible refine at_binD 9 ?_); refine L_give (by rfl) (g_ilss 3 _ _ .i64 _ _ true rfl rfl (decide_eq_true c1) ?_))
    | ((with_reducible refine at_loadD 13 3 ?_); refine L_give (by rfl) (g_cell3 _ (w.heap.size) 1 _ rfl (b_h.cell 1 _ rfl) ?_))
    | ((with_reducible refine at_binD 14 ?_); refine L_give (by rfl) (g_ieq 3 _ _ .i64 _ _ true rfl rfl (decide_eq_true c2) ?_))
    | ((with_reducible refine at_loadD 18 3 ?_); refine L_give (by rfl) (g_cell3 _ (w.heap.size) 2 _ rfl (b_h.cell 2 _ rfl) ?_))
    | ((with_reducible refine at_binD 19 ?_); refine L_give (by rfl) (g_igeq 3 _ _ .i64 _ _ false rfl rfl (decide_eq_false c3) ?_)))
  go_ret
  exact ⟨rfl, hB⟩
set_option maxRecDepth 10000 in
set_option maxHeartbeats 4000000 in
theorem rmay_4 (h : Hd) (w : World) (c0 : 0 ≤ h.le) (c1 : h.le < 4) (c2 : h.ve = 4) (c3 : 0 ≤ h.mo) (c4 : ¬ (h.mo < 8)) : Calls Try.prog 17 #[.agg (hc h).toArray] w fun e w' => e = .returned (.bool false) ∧ Below w.heap.size w w' := by
  go_enter Try.func17, Try.ntmps17
  (try simp only [List.append_eq, List.cons_append, List.nil_append])
  go_wp2_with (first
    | ((with_reducible refine at_boxD 1 26 ?_); refine L_box 26 _ (hc h) rfl ?_; intro w1 t_ b_h; have hB : Below w.heap.size w w1 := t_.below (Below.refl _ _) (Nat.le_refl _); clear t_)
    | ((with_reducible refine at_loadD 4 3 ?_); refine L_give (by rfl) (g_cell3 _ (w.heap.size) 0 _ rfl (b_h.cell 0 _ rfl) ?_))
    | ((with_reducible refine at_binD 5 ?_); refine L_give (by rfl) (g_igeq 3 _ _ .i64 _ _ true rfl rfl (decide_eq_true c0) ?_))
    | ((with_reducible refine at_loadD 8 3 ?_); refine L_give (by rfl) (g_cell3 _ (w.heap.size) 0 _ rfl (b_h.cell 0 _ rfl) ?_))
    | ((with_reducible refine at_binD 9 ?_); refine L_give (by rfl) (g_ilss 3 _ _ .i64 _ _ true rfl rfl (decide_eq_true c1) ?_))
    | ((with_reducible refine at_loadD 13 3 ?_); refine L_give (by rfl) (g_cell3 _ (w.heap.size) 1 _ rfl (b_h.cell 1 _ rfl) ?_))
    | ((with_reducible refine at_binD 14 ?_); refine L_give (by rfl) (g_ieq 3 _ _ .i64 _ _ true rfl rfl (decide_eq_true c2) ?_))
    | ((with_reducible refine at_loadD 18 3 ?_); refine L_give (by rfl) (g_cell3 _ (w.heap.size) 2 _ rfl (b_h.cell 2 _ rfl) ?_))
    | ((with_reducible refine at_binD 19 ?_); refine L_give (by rfl) (g_igeq 3 _ _ .i64 _ _ true rfl rfl (decide_eq_true c3) ?_))
    | ((with_reducible refine at_loadD 23 3 ?_); refine L_give (by rfl) (g_cell3 _ (w.heap.size) 2 _ rfl (b_h.cell 2 _ rfl) ?_))
    | ((with_reducible refine at_binD 24 ?_); refine L_give (by rfl) (g_ilss 3 _ _ .i64 _ _ false rfl rfl (decide_eq_false c4) ?_)))
  go_ret
  exact ⟨rfl, hB⟩
set_option maxRecDepth 10000 in
set_option maxHeartbeats 4000000 in
theorem rmay_5 (h : Hd) (w : World) (c0 : 0 ≤ h.le) (c1 : h.le < 4) (c2 : h.ve = 4) (c3 : 0 ≤ h.mo) (c4 : h.mo < 8) (c5 : ¬ (0 ≤ h.st)) : Calls Try.prog 17 #[.agg (hc h).toArray] w fun e w' => e = .returned (.bool false) ∧ Below w.heap.size w w' := by
  go_enter Try.func17, Try.ntmps17
  (try simp only [List.append_eq, List.cons_append, List.nil_append])
  go_wp2_with (first
    | ((with_reducible refine at_boxD 1 26 ?_); refine L_box 26 _ (hc h) rfl ?_; intro w1 t_ b_h; have hB : Below w.heap.size w w1 := t_.below (Below.refl _ _) (Nat.le_refl _); clear t_)
    | ((with_reducible refine at_loadD 4 3 ?_); refine L_give (by rfl) (g_cell3 _ (w.heap.size) 0 _ rfl (b_h.cell 0 _ rfl) ?_))
    | ((with_reducible refine at_binD 5 ?_); refine L_give (by rfl) (g_igeq 3 _ _ .i64 _ _ true rfl rfl (decide_eq_true c0) ?_))
    | ((with_reducible refine at_loadD 8 3 ?_); refine L_give (by rfl) (g_cell3 _ (w.heap.size) 0 _ rfl (b_h.cell 0 _ rfl) ?_))
    | ((with_reducible refine at_binD 9 ?_); refine L_give (by rfl) (g_ilss 3 _ _ .i64 _ _ true rfl rfl (decide_eq_true c1) ?_))
    | ((with_reducible refine at_loadD 13 3 ?_); refine L_give (by rfl) (g_cell3 _ (w.heap.size) 1 _ rfl (b_h.cell 1 _ rfl) ?_))
    | ((with_reducible refine at_binD 14 ?_); refine L_give (by rfl) (g_ieq 3 _ _ .i64 _ _ true rfl rfl (decide_eq_true c2) ?_))
    | ((with_reducible refine at_loadD 18 3 ?_); refine L_give (by rfl) (g_cell3 _ (w.heap.size) 2 _ rfl (b_h.cell 2 _ rfl) ?_))
    | ((with_reducible refine at_binD 19 ?_); refine L_give (by rfl) (g_igeq 3 _ _ .i64 _ _ true rfl rfl (decide_eq_true c3) ?_))
    | ((with_reducible refine at_loadD 23 3 ?_); refine L_give (by rfl) (g_cell3 _ (w.heap.size) 2 _ rfl (b_h.cell 2 _ rfl) ?_))
    | ((with_reducible refine at_binD 24 ?_); refine L_give (by rfl) (g_ilss 3 _ _ .i64 _ _ true rfl rfl (decide_eq_true c4) ?_))
    | ((with_reducible refine at_loadD 28 3 ?_); refine L_give (by rfl) (g_cell3 _ (w.heap.size) 3 _ rfl (b_h.cell 3 _ rfl) ?_))
    | ((with_reducible refine at_binD 29 ?_); refine L_give (by rfl) (g_igeq 3 _ _ .i64 _ _ false rfl rfl (decide_eq_false c5) ?_)))
  go_ret
  exact ⟨rfl, hB⟩
set_option maxRecDepth 10000 in
set_option maxHeartbeats 4000000 in
theorem rmay_6 (h : Hd) (w : World) (c0 : 0 ≤ h.le) (c1 : h.le < 4) (c2 : h.ve = 4) (c3 : 0 ≤ h.mo) (c4 : h.mo < 8) (c5 : 0 ≤ h.st) (c6 : ¬ (h.st < 256)) : Calls Try.prog 17 #[.agg (hc h).toArray] w fun e w' => e = .returned (.bool false) ∧ Below w.heap.size w w' := by
  go_enter Try.func17, Try.ntmps17
  (try simp only [List.append_eq, List.cons_append, List.nil_append])
  go_wp2_with (first
    | ((with_reducible refine at_boxD 1 26 ?_); refine L_box 26 _ (hc h) rfl ?_; intro w1 t_ b_h; have hB : Below w.heap.size w w1 := t_.below (Below.refl _ _) (Nat.le_refl _); clear t_)
    | ((with_reducible refine at_loadD 4 3 ?_); refine L_give (by rfl) (g_cell3 _ (w.heap.size) 0 _ rfl (b_h.cell 0 _ rfl) ?_))
    | ((with_reducible refine at_binD 5 ?_); refine L_give (by rfl) (g_igeq 3 _ _ .i64 _ _ true rfl rfl (decide_eq_true c0) ?_))
    | ((with_reducible refine at_loadD 8 3 ?_); refine L_give (by rfl) (g_cell3 _ (w.heap.size) 0 _ rfl (b_h.cell 0 _ rfl) ?_))
    | ((with_reducible refine at_binD 9 ?_); refine L_give (by rfl) (g_ilss 3 _ _ .i64 _ _ true rfl rfl (decide_eq_true c1) ?_))
    | ((with_reducible refine at_loadD 13 3 ?_); refine L_give (by rfl) (g_cell3 _ (w.heap.size) 1 _ rfl (b_h.cell 1 _ rfl) ?_))
    | ((with_reducible refine at_binD 14 ?_); refine L_give (by rfl) (g_ieq 3 _ _ .i64 _ _ true rfl rfl (decide_eq_true c2) ?_))
    | ((with_reducible refine at_loadD 18 3 ?_); refine L_give (by rfl) (g_cell3 _ (w.heap.size) 2 _ rfl (b_h.cell 2 _ rfl) ?_))
    | ((with_reducible refine at_binD 19 ?_); refine L_give (by rfl) (g_igeq 3 _ _ .i64 _ _ true rfl rfl (decide_eq_true c3) ?_))
    | ((with_reducible refine at_loadD 23 3 ?_); refine L_give (by rfl) (g_cell3 _ (w.heap.size) 2 _ rfl (b_h.cell 2 _ rfl) ?_))
    | ((with_reducible refine at_binD 24 ?_); refine L_give (by rfl) (g_ilss 3 _ _ .i64 _ _ true rfl rfl (decide_eq_true c4) ?_))
    | ((with_reducible refine at_loadD 28 3 ?_); refine L_give (by rfl) (g_cell3 _ (w.heap.size) 3 _ rfl (b_h.cell 3 _ rfl) ?_))
    | ((with_reducible refine at_binD 29 ?_); refine L_give (by rfl) (g_igeq 3 _ _ .i64 _ _ true rfl rfl (decide_eq_true c5) ?_))
    | ((with_reducible refine at_loadD 33 3 ?_); refine L_give (by rfl) (g_cell3 _ (w.heap.size) 3 _ rfl (b_h.cell 3 _ rfl) ?_))
    | ((with_reducible refine at_binD 34 ?_); refine L_give (by rfl) (g_ilss 3 _ _ .i64 _ _ false rfl rfl (decide_eq_false c6) ?_)))
  go_ret
  exact ⟨rfl, hB⟩
set_option maxRecDepth 10000 in
set_option maxHeartbeats 4000000 in
theorem rmay_7 (h : Hd) (w : World) (c0 : 0 ≤ h.le) (c1 : h.le < 4) (c2 : h.ve = 4) (c3 : 0 ≤ h.mo) (c4 : h.mo < 8) (c5 : 0 ≤ h.st) (c6 : h.st < 256) (c7 : ¬ (-128 ≤ h.po)) : Calls Try.prog 17 #[.agg (hc h).toArray] w fun e w' => e = .returned (.bool false) ∧ Below w.heap.size w w' := by
  go_enter Try.func17, Try.ntmps17
  (try simp only [List.append_eq, List.cons_append, List.nil_append])
  go_wp2_with (first
    | ((with_reducible refine at_boxD 1 26 ?_); refine L_box 26 _ (hc h) rfl ?_; intro w1 t_ b_h; have hB : Below w.heap.size w w1 := t_.below (Below.refl _ _) (Nat.le_refl _); clear t_)
    | ((with_reducible refine at_loadD 4 3 ?_); refine L_give (by rfl) (g_cell3 _ (w.heap.size) 0 _ rfl (b_h.cell 0 _ rfl) ?_))
    | ((with_reducible refine at_binD 5 ?_); refine L_give (by rfl) (g_igeq 3 _ _ .i64 _ _ true rfl rfl (decide_eq_true c0) ?_))
    | ((with_reducible refine at_loadD 8 3 ?_); refine L_give (by rfl) (g_cell3 _ (w.heap.size) 0 _ rfl (b_h.cell 0 _ rfl) ?_))
    | ((with_reducible refine at_binD 9 ?_); refine L_give (by rfl) (g_ilss 3 _ _ .i64 _ _ true rfl rfl (decide_eq_true c1) ?_))
    | ((with_reducible refine at_loadD 13 3 ?_); refine L_give (by rfl) (g_cell3 _ (w.heap.size) 1 _ rfl (b_h.cell 1 _ rfl) ?_))
    | ((with_reducible refine at_binD 14 ?_); refine L_give (by rfl) (g_ieq 3 _ _ .i64 _ _ true rfl rfl (decide_eq_true c2) ?_))
    | ((with_reducible refine at_loadD 18 3 ?_); refine L_give (by rfl) (g_cell3 _ (w.heap.size) 2 _ rfl (b_h.cell 2 _ rfl) ?_))
    | ((with_reducible refine at_binD 19 ?_); refine L_give (by rfl) (g_igeq 3 _ _ .i64 _ _ true rfl rfl (decide_eq_true c3) ?_))
    | ((with_reducible refine at_loadD 23 3 ?_); refine L_give (by rfl) (g_cell3 _ (w.heap.size) 2 _ rfl (b_h.cell 2 _ rfl) ?_))
    | ((with_reducible refine at_binD 24 ?_); refine L_give (by rfl) (g_ilss 3 _ _ .i64 _ _ true rfl rfl (decide_eq_true c4) ?_))
    | ((with_reducible refine at_loadD 28 3 ?_); refine L_give (by rfl) (g_cell3 _ (w.heap.size) 3 _ rfl (b_h.cell 3 _ rfl) ?_))
    | ((with_reducible refine at_binD 29 ?_); refine L_give (by rfl) (g_igeq 3 _ _ .i64 _ _ true rfl rfl (decide_eq_true c5) ?_))
    | ((with_reducible refine at_loadD 33 3 ?_); refine L_give (by rfl) (g_cell3 _ (w.heap.size) 3 _ rfl (b_h.cell 3 _ rfl) ?_))
    | ((with_reducible refine at_binD 34 ?_); refine L_give (by rfl) (g_ilss 3 _ _ .i64 _ _ true rfl rfl (decide_eq_true c6) ?_))
    | ((with_reducible refine at_loadD 38 3 ?_); refine L_give (by rfl) (g_cell3 _ (w.heap.size) 4 _ rfl (b_h.cell 4 _ rfl) ?_))
    | ((with_reducible refine at_binD 39 ?_); refine L_give (by rfl) (g_igeq 3 _ _ .i64 _ _ false rfl rfl (decide_eq_false c7) ?_)))
  go_ret
  exact ⟨rfl, hB⟩
set_option maxRecDepth 10000 in
set_option maxHeartbeats 4000000 in
theorem rmay_8 (h : Hd) (w : World) (c0 : 0 ≤ h.le) (c1 : h.le < 4) (c2 : h.ve = 4) (c3 : 0 ≤ h.mo) (c4 : h.mo < 8) (c5 : 0 ≤ h.st) (c6 : h.st < 256) (c7 : -128 ≤ h.po) (c8 : ¬ (h.po < 128)) : Calls Try.prog 17 #[.agg (hc h).toArray] w fun e w' => e = .returned (.bool false) ∧ Below w.heap.size w w' := by
  go_enter Try.func17, Try.ntmps17
  (try simp only [List.append_eq, List.cons_append, List.nil_append])
  go_wp2_with (first
    | ((with_reducible refine at_boxD 1 26 ?_); refine L_box 26 _ (hc h) rfl ?_; intro w1 t_ b_h; have hB : Below w.heap.size w w1 := t_.below (Below.refl _ _) (Nat.le_refl _); clear t_)
    | ((with_reducible refine at_loadD 4 3 ?_); refine L_give (by rfl) (g_cell3 _ (w.heap.size) 0 _ rfl (b_h.cell 0 _ rfl) ?_))
    | ((with_reducible refine at_binD 5 ?_); refine L_give (by rfl) (g_igeq 3 _ _ .i64 _ _ true rfl rfl (decide_eq_true c0) ?_))
    | ((with_reducible refine at_loadD 8 3 ?_); refine L_give (by rfl) (g_cell3 _ (w.heap.size) 0 _ rfl (b_h.cell 0 _ rfl) ?_))
    | ((with_reducible refine at_binD 9 ?_); refine L_give (by rfl) (g_ilss 3 _ _ .i64 _ _ true rfl rfl (decide_eq_true c1) ?_))
    | ((with_reducible refine at_loadD 13 3 ?_); refine L_give (by rfl) (g_cell3 _ (w.heap.size) 1 _ rfl (b_h.cell 1 _ rfl) ?_))
    | ((with_reducible refine at_binD 14 ?_); refine L_give (by rfl) (g_ieq 3 _ _ .i64 _ _ true rfl rfl (decide_eq_true c2) ?_))
    | ((with_reducible refine at_loadD 18 3 ?_); refine L_give (by rfl) (g_cell3 _ (w.heap.size) 2 _ rfl (b_h.cell 2 _ rfl) ?_))
    | ((with_reducible refine at_binD 19 ?_); refine L_give (by rfl) (g_igeq 3 _ _ .i64 _ _ true rfl rfl (decide_eq_true c3) ?_))
    | ((with_reducible refine at_loadD 23 3 ?_); refine L_give (by rfl) (g_cell3 _ (w.heap.size) 2 _ rfl (b_h.cell 2 _ rfl) ?_))
    | ((with_reducible refine at_binD 24 ?_); refine L_give (by rfl) (g_ilss 3 _ _ .i64 _ _ true rfl rfl (decide_eq_true c4) ?_))
    | ((with_reducible refine at_loadD 28 3 ?_); refine L_give (by rfl) (g_cell3 _ (w.heap.size) 3 _ rfl (b_h.cell 3 _ rfl) ?_))
    | ((with_reducible refine at_binD 29 ?_); refine L_give (by rfl) (g_igeq 3 _ _ .i64 _ _ true rfl rfl (decide_eq_true c5) ?_))
    | ((with_reducible refine at_loadD 33 3 ?_); refine L_give (by rfl) (g_cell3 _ (w.heap.size) 3 _ rfl (b_h.cell 3 _ rfl) ?_))
    | ((with_reducible refine at_binD 34 ?_); refine L_give (by rfl) (g_ilss 3 _ _ .i64 _ _ true rfl rfl (decide_eq_true c6) ?_))
    | ((with_reducible refine at_loadD 38 3 ?_); refine L_give (by rfl) (g_cell3 _ (w.heap.size) 4 _ rfl (b_h.cell 4 _ rfl) ?_))
    | ((with_reducible refine at_binD 39 ?_); refine L_give (by rfl) (g_igeq 3 _ _ .i64 _ _ true rfl rfl (decide_eq_true c7) ?_))
    | ((with_reducible refine at_loadD 43 3 ?_); refine L_give (by rfl) (g_cell3 _ (w.heap.size) 4 _ rfl (b_h.cell 4 _ rfl) ?_))
    | ((with_reducible refine at_binD 44 ?_); refine L_give (by rfl) (g_ilss 3 _ _ .i64 _ _ false rfl rfl (decide_eq_false c8) ?_)))
  go_ret
  exact ⟨rfl, hB⟩
set_option maxRecDepth 10000 in
set_option maxHeartbeats 4000000 in
theorem rmay_9 (h : Hd) (w : World) (c0 : 0 ≤ h.le) (c1 : h.le < 4) (c2 : h.ve = 4) (c3 : 0 ≤ h.mo) (c4 : h.mo < 8) (c5 : 0 ≤ h.st) (c6 : h.st < 256) (c7 : -128 ≤ h.po) (c8 : h.po < 128) (c9 : ¬ (-128 ≤ h.pr)) : Calls Try.prog 17 #[.agg (hc h).toArray] w fun e w' => e = .returned (.bool false) ∧ Below w.heap.size w w' := by
  go_enter Try.func17, Try.ntmps17
  (try simp only [List.append_eq, List.cons_append, List.nil_append])
  go_wp2_with (first
    | ((with_reducible refine at_boxD 1 26 ?_); refine L_box 26 _ (hc h) rfl ?_; intro w1 t_ b_h; have hB : Below w.heap.size w w1 := t_.below (Below.refl _ _) (Nat.le_refl _); clear t_)
    | ((with_reducible refine at_loadD 4 3 ?_); refine L_give (by rfl) (g_cell3 _ (w.heap.size) 0 _ rfl (b_h.cell 0 _ rfl) ?_))
    | ((with_reducible refine at_binD 5 ?_); refine L_give (by rfl) (g_igeq 3 _ _ .i64 _ _ true rfl rfl (decide_eq_true c0) ?_))
    | ((with_reducible refine at_loadD 8 3 ?_); refine L_give (by rfl) (g_cell3 _ (w.heap.size) 0 _ rfl (b_h.cell 0 _ rfl) ?_))
    | ((with_reducible refine at_binD 9 ?_); refine L_give (by rfl) (g_ilss 3 _ _ .i64 _ _ true rfl rfl (decide_eq_true c1) ?_))
    | ((with_reducible refine at_loadD 13 3 ?_); refine L_give (by rfl) (g_cell3 _ (w.heap.size) 1 _ rfl (b_h.cell 1 _ rfl) ?_))
    | ((with_reducible refine at_binD 14 ?_); refine L_give (by rfl) (g_ieq 3 _ _ .i64 _ _ true rfl rfl (decide_eq_true c2) ?_))
    | ((with_reducible refine at_loadD 18 3 ?_); refine L_give (by rfl) (g_cell3 _ (w.heap.size) 2 _ rfl (b_h.cell 2 _ rfl) ?_))
    | ((with_reducible refine at_binD 19 ?_); refine L_give (by rfl) (g_igeq 3 _ _ .i64 _ _ true rfl rfl (decide_eq_true c3) ?_))
    | ((with_reducible refine at_loadD 23 3 ?_); refine L_give (by rfl) (g_cell3 _ (w.heap.size) 2 _ rfl (b_h.cell 2 _ rfl) ?_))
    | ((with_reducible refine at_binD 24 ?_); refine L_give (by rfl) (g_ilss 3 _ _ .i64 _ _ true rfl rfl (decide_eq_true c4) ?_))
    | ((with_reducible refine at_loadD 28 3 ?_); refine L_give (by rfl) (g_cell3 _ (w.heap.size) 3 _ rfl (b_h.cell 3 _ rfl) ?_))
    | ((with_reducible refine at_binD 29 ?_); refine L_give (by rfl) (g_igeq 3 _ _ .i64 _ _ true rfl rfl (decide_eq_true c5) ?_))
    | ((with_reducible refine at_loadD 33 3 ?_); refine L_give (by rfl) (g_cell3 _ (w.heap.size) 3 _ rfl (b_h.cell 3 _ rfl) ?_))
    | ((with_reducible refine at_binD 34 ?_); refine L_give (by rfl) (g_ilss 3 _ _ .i64 _ _ true rfl rfl (decide_eq_true c6) ?_))
    | ((with_reducible refine at_loadD 38 3 ?_); refine L_give (by rfl) (g_cell3 _ (w.heap.size) 4 _ rfl (b_h.cell 4 _ rfl) ?_))
    | ((with_reducible refine at_binD 39 ?_); refine L_give (by rfl) (g_igeq 3 _ _ .i64 _ _ true rfl rfl (decide_eq_true c7) ?_))
    | ((with_reducible refine at_loadD 43 3 ?_); refine L_give (by rfl) (g_cell3 _ (w.heap.size) 4 _ rfl (b_h.cell 4 _ rfl) ?_))
    | ((with_reducible refine at_binD 44 ?_); refine L_give (by rfl) (g_ilss 3 _ _ .i64 _ _ true rfl rfl (decide_eq_true c8) ?_))
    | ((with_reducible refine at_loadD 48 3 ?_); refine L_give (by rfl) (g_cell3 _ (w.heap.size) 5 _ rfl (b_h.cell 5 _ rfl) ?_))
    | ((with_reducible refine at_binD 49 ?_); refine L_give (by rfl) (g_igeq 3 _ _ .i64 _ _ false rfl rfl (decide_eq_false c9) ?_)))
  go_ret
  exact ⟨rfl, hB⟩
set_option maxRecDepth 10000 in
set_option maxHeartbeats 4000000 in
theorem rmay_10 (h : Hd) (w : World) (c0 : 0 ≤ h.le) (c1 : h.le < 4) (c2 : h.ve = 4) (c3 : 0 ≤ h.mo) (c4 : h.mo < 8) (c5 : 0 ≤ h.st) (c6 : h.st < 256) (c7 : -128 ≤ h.po) (c8 : h.po < 128) (c9 : -128 ≤ h.pr) (c10 : ¬ (h.pr < 128)) : Calls Try.prog 17 #[.agg (hc h).toArray] w fun e w' => e = .returned (.bool false) ∧ Below w.heap.size w w' := by
  go_enter Try.func17, Try.ntmps17
  (try simp only [List.append_eq, List.cons_append, List.nil_append])
  go_wp2_with (first
    | ((with_reducible refine at_boxD 1 26 ?_); refine L_box 26 _ (hc h) rfl ?_; intro w1 t_ b_h; have hB : Below w.heap.size w w1 := t_.below (Below.refl _ _) (Nat.le_refl _); clear t_)
    | ((with_reducible refine at_loadD 4 3 ?_); refine L_give (by rfl) (g_cell3 _ (w.heap.size) 0 _ rfl (b_h.cell 0 _ rfl) ?_))
    | ((with_reducible refine at_binD 5 ?_); refine L_give (by rfl) (g_igeq 3 _ _ .i64 _ _ true rfl rfl (decide_eq_true c0) ?_))
    | ((with_reducible refine at_loadD 8 3 ?_); refine L_give (by rfl) (g_cell3 _ (w.heap.size) 0 _ rfl (b_h.cell 0 _ rfl) ?_))
    | ((with_reducible refine at_binD 9 ?_); refine L_give (by rfl) (g_ilss 3 _ _ .i64 _ _ true rfl rfl (decide_eq_true c1) ?_))
    | ((with_reducible refine at_loadD 13 3 ?_); refine L_give (by rfl) (g_cell3 _ (w.heap.size) 1 _ rfl (b_h.cell 1 _ rfl) ?_))
    | ((with_reducible refine at_binD 14 ?_); refine L_give (by rfl) (g_ieq 3 _ _ .i64 _ _ true rfl rfl (decide_eq_true c2) ?_))
    | ((with_reducible refine at_loadD 18 3 ?_); refine L_give (by rfl) (g_cell3 _ (w.heap.size) 2 _ rfl (b_h.cell 2 _ rfl) ?_))
    | ((with_reducible refine at_binD 19 ?_); refine L_give (by rfl) (g_igeq 3 _ _ .i64 _ _ true rfl rfl (decide_eq_true c3) ?_))
    | ((with_reducible refine at_loadD 23 3 ?_); refine L_give (by rfl) (g_cell3 _ (w.heap.size) 2 _ rfl (b_h.cell 2 _ rfl) ?_))
    | ((with_reducible refine at_binD 24 ?_); refine L_give (by rfl) (g_ilss 3 _ _ .i64 _ _ true rfl rfl (decide_eq_true c4) ?_))
    | ((with_reducible refine at_loadD 28 3 ?_); refine L_give (by rfl) (g_cell3 _ (w.heap.size) 3 _ rfl (b_h.cell 3 _ rfl) ?_))
    | ((with_reducible refine at_binD 29 ?_); refine L_give (by rfl) (g_igeq 3 _ _ .i64 _ _ true rfl rfl (decide_eq_true c5) ?_))
    | ((with_reducible refine at_loadD 33 3 ?_); refine L_give (by rfl) (g_cell3 _ (w.heap.size) 3 _ rfl (b_h.cell 3 _ rfl) ?_))
    | ((with_reducible refine at_binD 34 ?_); refine L_give (by rfl) (g_ilss 3 _ _ .i64 _ _ true rfl rfl (decide_eq_true c6) ?_))
    | ((with_reducible refine at_loadD 38 3 ?_); refine L_give (by rfl) (g_cell3 _ (w.heap.size) 4 _ rfl (b_h.cell 4 _ rfl) ?_))
    | ((with_reducible refine at_binD 39 ?_); refine L_give (by rfl) (g_igeq 3 _ _ .i64 _ _ true rfl rfl (decide_eq_true c7) ?_))
    | ((with_reducible refine at_loadD 43 3 ?_); refine L_give (by rfl) (g_cell3 _ (w.heap.size) 4 _ rfl (b_h.cell 4 _ rfl) ?_))
    | ((with_reducible refine at_binD 44 ?_); refine L_give (by rfl) (g_ilss 3 _ _ .i64 _ _ true rfl rfl (decide_eq_true c8) ?_))
    | ((with_reducible refine at_loadD 48 3 ?_); refine L_give (by rfl) (g_cell3 _ (w.heap.size) 5 _ rfl (b_h.cell 5 _ rfl) ?_))
    | ((with_reducible refine at_binD 49 ?_); refine L_give (by rfl) (g_igeq 3 _ _ .i64 _ _ true rfl rfl (decide_eq_true c9) ?_))
    | ((with_reducible refine at_loadD 53 3 ?_); refine L_give (by rfl) (g_cell3 _ (w.heap.size) 5 _ rfl (b_h.cell 5 _ rfl) ?_))
    | ((with_reducible refine at_binD 54 ?_); refine L_give (by rfl) (g_ilss 3 _ _ .i64 _ _ false rfl rfl (decide_eq_false c10) ?_)))
  go_ret
  exact ⟨rfl, hB⟩
set_option maxRecDepth 10000 in
set_option maxHeartbeats 4000000 in
theorem rmay_11 (h : Hd) (w : World) (c0 : 0 ≤ h.le) (c1 : h.le < 4) (c2 : h.ve = 4) (c3 : 0 ≤ h.mo) (c4 : h.mo < 8) (c5 : 0 ≤ h.st) (c6 : h.st < 256) (c7 : -128 ≤ h.po) (c8 : h.po < 128) (c9 : -128 ≤ h.pr) (c10 : h.pr < 128) : Calls Try.prog 17 #[.agg (hc h).toArray] w fun e w' => e = .returned (.bool true) ∧ Below w.heap.size w w' := by
  go_enter Try.func17, Try.ntmps17
  (try simp only [List.append_eq, List.cons_append, List.nil_append])
  go_wp2_with (first
    | ((with_reducible refine at_boxD 1 26 ?_); refine L_box 26 _ (hc h) rfl ?_; intro w1 t_ b_h; have hB : Below w.heap.size w w1 := t_.below (Below.refl _ _) (Nat.le_refl _); clear t_)
    | ((with_reducible refine at_loadD 4 3 ?_); refine L_give (by rfl) (g_cell3 _ (w.heap.size) 0 _ rfl (b_h.cell 0 _ rfl) ?_))
    | ((with_reducible refine at_binD 5 ?_); refine L_give (by rfl) (g_igeq 3 _ _ .i64 _ _ true rfl rfl (decide_eq_true c0) ?_))
    | ((with_reducible refine at_loadD 8 3 ?_); refine L_give (by rfl) (g_cell3 _ (w.heap.size) 0 _ rfl (b_h.cell 0 _ rfl) ?_))
    | ((with_reducible refine at_binD 9 ?_); refine L_give (by rfl) (g_ilss 3 _ _ .i64 _ _ true rfl rfl (decide_eq_true c1) ?_))
    | ((with_reducible refine at_loadD 13 3 ?_); refine L_give (by rfl) (g_cell3 _ (w.heap.size) 1 _ rfl (b_h.cell 1 _ rfl) ?_))
    | ((with_reducible refine at_binD 14 ?_); refine L_give (by rfl) (g_ieq 3 _ _ .i64 _ _ true rfl rfl (decide_eq_true c2) ?_))
    | ((with_reducible refine at_loadD 18 3 ?_); refine L_give (by rfl) (g_cell3 _ (w.heap.size) 2 _ rfl (b_h.cell 2 _ rfl) ?_))
    | ((with_reducible refine at_binD 19 ?_); refine L_give (by rfl) (g_igeq 3 _ _ .i64 _ _ true rfl rfl (decide_eq_true c3) ?_))
    | ((with_reducible refine at_loadD 23 3 ?_); refine L_give (by rfl) (g_cell3 _ (w.heap.size) 2 _ rfl (b_h.cell 2 _ rfl) ?_))
    | ((with_reducible refine at_binD 24 ?_); refine L_give (by rfl) (g_ilss 3 _ _ .i64 _ _ true rfl rfl (decide_eq_true c4) ?_))
    | ((with_reducible refine at_loadD 28 3 ?_); refine L_give (by rfl) (g_cell3 _ (w.heap.size) 3 _ rfl (b_h.cell 3 _ rfl) ?_))
    | ((with_reducible refine at_binD 29 ?_); refine L_give (by rfl) (g_igeq 3 _ _ .i64 _ _ true rfl rfl (decide_eq_true c5) ?_))
    | ((with_reducible refine at_loadD 33 3 ?_); refine L_give (by rfl) (g_cell3 _ (w.heap.size) 3 _ rfl (b_h.cell 3 _ rfl) ?_))
    | ((with_reducible refine at_binD 34 ?_); refine L_give (by rfl) (g_ilss 3 _ _ .i64 _ _ true rfl rfl (decide_eq_true c6) ?_))
    | ((with_reducible refine at_loadD 38 3 ?_); refine L_give (by rfl) (g_cell3 _ (w.heap.size) 4 _ rfl (b_h.cell 4 _ rfl) ?_))
    | ((with_reducible refine at_binD 39 ?_); refine L_give (by rfl) (g_igeq 3 _ _ .i64 _ _ true rfl rfl (decide_eq_true c7) ?_))
    | ((with_reducible refine at_loadD 43 3 ?_); refine L_give (by rfl) (g_cell3 _ (w.heap.size) 4 _ rfl (b_h.cell 4 _ rfl) ?_))
    | ((with_reducible refine at_binD 44 ?_); refine L_give (by rfl) (g_ilss 3 _ _ .i64 _ _ true rfl rfl (decide_eq_true c8) ?_))
    | ((with_reducible refine at_loadD 48 3 ?_); refine L_give (by rfl) (g_cell3 _ (w.heap.size) 5 _ rfl (b_h.cell 5 _ rfl) ?_))
    | ((with_reducible refine at_binD 49 ?_); refine L_give (by rfl) (g_igeq 3 _ _ .i64 _ _ true rfl rfl (decide_eq_true c9) ?_))
    | ((with_reducible refine at_loadD 53 3 ?_); refine L_give (by rfl) (g_cell3 _ (w.heap.size) 5 _ rfl (b_h.cell 5 _ rfl) ?_))
    | ((with_reducible refine at_binD 54 ?_); refine L_give (by rfl) (g_ilss 3 _ _ .i64 _ _ true rfl rfl (decide_eq_true c10) ?_)))
  go_ret
  exact ⟨rfl, hB⟩
theorem rmay_any (h : Hd) (b : Bool) (w : World) (hb : Hid (may h = b)) : Calls Try.prog 17 #[.agg (hc h).toArray] w fun e w' => e = .returned (.bool b) ∧ Below w.heap.size w w' := by
  have hf : ∀ i : Mays h → False, may h = false := fun i => decide_eq_false i
  by_cases c0 : 0 ≤ h.le
  · by_cases c1 : h.le < 4
    · by_cases c2 : h.ve = 4
      · by_cases c3 : 0 ≤ h.mo
        · by_cases c4 : h.mo < 8
          · by_cases c5 : 0 ≤ h.st
            · by_cases c6 : h.st < 256
              · by_cases c7 : -128 ≤ h.po
                · by_cases c8 : h.po < 128
                  · by_cases c9 : -128 ≤ h.pr
                    · by_cases c10 : h.pr < 128
                      · rw [← hb.out, show may h = true from decide_eq_true ⟨c2, ⟨c0, by omega⟩, ⟨c3, by omega⟩, ⟨c5, by omega⟩, ⟨c7, by omega⟩, ⟨c9, by omega⟩⟩]; exact rmay_11 h w c0 c1 c2 c3 c4 c5 c6 c7 c8 c9 c10
                      · rw [← hb.out, hf (fun i => by unfold Mays at i; omega)]; exact rmay_10 h w c0 c1 c2 c3 c4 c5 c6 c7 c8 c9 c10
                    · rw [← hb.out, hf (fun i => by unfold Mays at i; omega)]; exact rmay_9 h w c0 c1 c2 c3 c4 c5 c6 c7 c8 c9
                  · rw [← hb.out, hf (fun i => by unfold Mays at i; omega)]; exact rmay_8 h w c0 c1 c2 c3 c4 c5 c6 c7 c8
                · rw [← hb.out, hf (fun i => by unfold Mays at i; omega)]; exact rmay_7 h w c0 c1 c2 c3 c4 c5 c6 c7
              · rw [← hb.out, hf (fun i => by unfold Mays at i; omega)]; exact rmay_6 h w c0 c1 c2 c3 c4 c5 c6
            · rw [← hb.out, hf (fun i => by unfold Mays at i; omega)]; exact rmay_5 h w c0 c1 c2 c3 c4 c5
          · rw [← hb.out, hf (fun i => by unfold Mays at i; omega)]; exact rmay_4 h w c0 c1 c2 c3 c4
        · rw [← hb.out, hf (fun i => by unfold Mays at i; omega)]; exact rmay_3 h w c0 c1 c2 c3
      · rw [← hb.out, hf (fun i => by unfold Mays at i; omega)]; exact rmay_2 h w c0 c1 c2
    · rw [← hb.out, hf (fun i => by unfold Mays at i; omega)]; exact rmay_1 h w c0 c1
  · rw [← hb.out, hf (fun i => by unfold Mays at i; omega)]; exact rmay_0 h w c0
theorem ext_list (s : ByteArray) (i j : Nat) : (s.extract i j).data.toList = (s.data.toList.drop i).take (j - i) := by
  simp [ByteArray.data_extract, List.extract_eq_take_drop]
theorem ext_size (s : ByteArray) (i n : Nat) (h : i + n ≤ s.size) : (s.extract i (i + n)).size = n := by
  rw [ByteArray.size_extract]; omega
theorem ext_nm (s : ByteArray) (i n : Nat) : num (s.extract i (i + n)).data.toList = nm s.data.toList i n := by
  rw [ext_list, nm, show i + n - i = n by omega]
set_option maxRecDepth 10000 in
set_option maxHeartbeats 4000000 in
theorem number_any (s : ByteArray) (i n : Nat) (m : Int) (w : World) (hs : i + n ≤ s.size) (hs2 : s.size ≤ 140737488355328) (hn : n ≤ 8) (hm : Hid ((nm s.data.toList i n : Nat) = m)) : Calls Try.prog 31 #[.string s, .int .i64 i, .int .i64 n] w fun e w' => e = .returned (.int .u64 m) ∧ w' = w := by
  have hsz := ext_size s i n hs
  have HE : Hid (((num (s.extract i (i + n)).data.toList : Nat) : Int) = m) := by show _ = _; rw [ext_nm]; exact hm.out
  generalize hx : s.extract i (i + n) = x at *
  go_enter Try.func31, Try.ntmps31
  go_wp2_with ((with_reducible refine at_sliceD 15 ?_); refine L_give (by rfl) (g_slh _ _ _ _ x i (i + n) rfl rfl rfl (by omega) hs hx ?_))
  refine (take_any x w (by omega)).mono ?_
  rintro e w1 ⟨rfl, hW⟩
  rw [hW, HE.out]
  go_wp2
  go_ret
  exact ⟨rfl, rfl⟩
set_option maxRecDepth 10000 in
set_option maxHeartbeats 4000000 in
theorem rnum_any (s : ByteArray) (i n : Nat) (m : Int) (w : World) (hs : i + n ≤ s.size) (hs2 : s.size ≤ 140737488355328) (hn : n ≤ 8) (hm : Hid ((nm s.data.toList i n : Nat) = m)) : Calls Try.prog 33 #[.string s, .int .i64 i, .int .i64 n] w fun e w' => e = .returned (.int .u64 m) ∧ w' = w := by
  have hsz := ext_size s i n hs
  have HE : Hid (((num (s.extract i (i + n)).data.toList : Nat) : Int) = m) := by show _ = _; rw [ext_nm]; exact hm.out
  generalize hx : s.extract i (i + n) = x at *
  go_enter Try.func33, Try.ntmps33
  go_wp2_with ((with_reducible refine at_sliceD 15 ?_); refine L_give (by rfl) (g_slh _ _ _ _ x i (i + n) rfl rfl rfl (by omega) hs hx ?_))
  refine (rtake_any x w (by omega)).mono ?_
  rintro e w1 ⟨rfl, hW⟩
  rw [hW, HE.out]
  go_wp2
  go_ret
  exact ⟨rfl, rfl⟩
set_option maxRecDepth 10000 in
set_option maxHeartbeats 4000000 in
theorem below_hi (c : UInt8) (w : World) (h : 127 < c.toNat) : Calls Try.prog 32 #[.int .u8 c.toNat] w fun e w' => e = .returned (.int .i64 ((c.toNat : Int) - 256)) ∧ w' = w := by
  have hc := c.toNat_lt
  generalize c.toNat = n at *
  go_enter Try.func32, Try.ntmps32
  go_wp2
  go_ret
  exact ⟨rfl, rfl⟩
set_option maxRecDepth 10000 in
set_option maxHeartbeats 4000000 in
theorem below_lo (c : UInt8) (w : World) (h : ¬ 127 < c.toNat) : Calls Try.prog 32 #[.int .u8 c.toNat] w fun e w' => e = .returned (.int .i64 (c.toNat : Int)) ∧ w' = w := by
  have hc := c.toNat_lt
  generalize c.toNat = n at *
  go_enter Try.func32, Try.ntmps32
  go_wp2
  go_ret
  exact ⟨rfl, rfl⟩
theorem below_any (c : UInt8) (m : Int) (w : World) (hm : Hid (sg c = m)) : Calls Try.prog 32 #[.int .u8 c.toNat] w fun e w' => e = .returned (.int .i64 m) ∧ w' = w := by
  by_cases h : 127 < c.toNat
  · rw [← hm.out, sg, if_pos h]; exact below_hi c w h
  · rw [← hm.out, sg, if_neg h]; exact below_lo c w h
set_option maxRecDepth 10000 in
set_option maxHeartbeats 4000000 in
theorem fmay_0 (f : Int × ByteArray) (w : World) (c0 : ¬ (1 ≤ f.1 ∧ f.1 ≤ 65535)) : Calls Try.prog 36 #[.agg (fc f).toArray] w fun e w' => e = .returned (.bool false) ∧ Below w.heap.size w w' := by
  go_enter Try.func36, Try.ntmps36
  go_wp2_with (first
    | ((with_reducible refine at_boxD 1 48 ?_); refine L_box 48 _ (fc f) rfl ?_; intro w1 t_ b_f; have hB : Below w.heap.size w w1 := t_.below (Below.refl _ _) (Nat.le_refl _); clear t_)
    | ((with_reducible refine at_loadD 4 3 ?_); refine L_give (by rfl) (g_cell3 _ (w.heap.size) 0 _ rfl (b_f.cell 0 _ rfl) ?_))
    | ((with_reducible refine at_callD 5 ?_); refine L_give (by rfl) (g_call 34 _ _ [.int .i64 f.1, .int .i64 1, .int .i64 65535] (kf34 _ _) rfl ((within_f _ _ _ _ c0).mono ?_)); rintro e w_ ⟨rfl, hW⟩; rw [hW]; clear hW w_; refine ⟨_, rfl, ?_⟩))
  go_ret
  exact ⟨rfl, hB⟩
set_option maxRecDepth 10000 in
set_option maxHeartbeats 4000000 in
theorem fmay_1 (f : Int × ByteArray) (w : World) (c0 : 1 ≤ f.1 ∧ f.1 ≤ 65535) (c1 : ¬ ((f.2.size : Int) ≤ 1000)) : Calls Try.prog 36 #[.agg (fc f).toArray] w fun e w' => e = .returned (.bool false) ∧ Below w.heap.size w w' := by
  go_enter Try.func36, Try.ntmps36
  go_wp2_with (first
    | ((with_reducible refine at_boxD 1 48 ?_); refine L_box 48 _ (fc f) rfl ?_; intro w1 t_ b_f; have hB : Below w.heap.size w w1 := t_.below (Below.refl _ _) (Nat.le_refl _); clear t_)
    | ((with_reducible refine at_loadD 4 3 ?_); refine L_give (by rfl) (g_cell3 _ (w.heap.size) 0 _ rfl (b_f.cell 0 _ rfl) ?_))
    | ((with_reducible refine at_callD 5 ?_); refine L_give (by rfl) (g_call 34 _ _ [.int .i64 f.1, .int .i64 1, .int .i64 65535] (kf34 _ _) rfl ((within_t _ _ _ _ c0.1 c0.2).mono ?_)); rintro e w_ ⟨rfl, hW⟩; rw [hW]; clear hW w_; refine ⟨_, rfl, ?_⟩)
    | ((with_reducible refine at_loadD 8 9 ?_); refine L_give (by rfl) (g_cell9 _ (w.heap.size) 1 _ rfl (b_f.cell 1 _ rfl) ?_))
    | ((with_reducible refine at_binD 10 ?_); refine L_give (by rfl) (g_ileq 3 _ _ .i64 _ _ false rfl rfl (decide_eq_false c1) ?_)))
  go_ret
  exact ⟨rfl, hB⟩
set_option maxRecDepth 10000 in
set_option maxHeartbeats 4000000 in
theorem fmay_2 (f : Int × ByteArray) (w : World) (c0 : 1 ≤ f.1 ∧ f.1 ≤ 65535) (c1 : (f.2.size : Int) ≤ 1000) : Calls Try.prog 36 #[.agg (fc f).toArray] w fun e w' => e = .returned (.bool true) ∧ Below w.heap.size w w' := by
  go_enter Try.func36, Try.ntmps36
  go_wp2_with (first
    | ((with_reducible refine at_boxD 1 48 ?_); refine L_box 48 _ (fc f) rfl ?_; intro w1 t_ b_f; have hB : Below w.heap.size w w1 := t_.below (Below.refl _ _) (Nat.le_refl _); clear t_)
    | ((with_reducible refine at_loadD 4 3 ?_); refine L_give (by rfl) (g_cell3 _ (w.heap.size) 0 _ rfl (b_f.cell 0 _ rfl) ?_))
    | ((with_reducible refine at_callD 5 ?_); refine L_give (by rfl) (g_call 34 _ _ [.int .i64 f.1, .int .i64 1, .int .i64 65535] (kf34 _ _) rfl ((within_t _ _ _ _ c0.1 c0.2).mono ?_)); rintro e w_ ⟨rfl, hW⟩; rw [hW]; clear hW w_; refine ⟨_, rfl, ?_⟩)
    | ((with_reducible refine at_loadD 8 9 ?_); refine L_give (by rfl) (g_cell9 _ (w.heap.size) 1 _ rfl (b_f.cell 1 _ rfl) ?_))
    | ((with_reducible refine at_binD 10 ?_); refine L_give (by rfl) (g_ileq 3 _ _ .i64 _ _ true rfl rfl (decide_eq_true c1) ?_)))
  go_ret
  exact ⟨rfl, hB⟩
theorem fmay_any (f : Int × ByteArray) (b : Bool) (w : World) (hb : Hid (fmay f = b)) : Calls Try.prog 36 #[.agg (fc f).toArray] w fun e w' => e = .returned (.bool b) ∧ Below w.heap.size w w' := by
  by_cases c0 : 1 ≤ f.1 ∧ f.1 ≤ 65535
  · by_cases c1 : (f.2.size : Int) ≤ 1000
    · rw [← hb.out, show fmay f = true from decide_eq_true ⟨c0, by omega⟩]; exact fmay_2 f w c0 c1
    · rw [← hb.out, show fmay f = false from decide_eq_false (fun i => c1 (by have := i.2; omega))]; exact fmay_1 f w c0 c1
  · rw [← hb.out, show fmay f = false from decide_eq_false (fun i => c0 i.1)]; exact fmay_0 f w c0
end Go.Proofs.Yteieacamokoejaa
