/- What the program's head.within, May, number and fieldMay answer, and the reference's May, num and below; nothing that was there is changed. -/
import Derived.Test.YteieacamokoejaaHOps
import Derived.WalkKit
import Derived.WalkSpells
import Derived.WalkLawsBesides
namespace Go.Proofs.Yteieacamokoejaa
open Go Go.RowKit
set_option linter.unusedVariables false

set_option maxRecDepth 10000 in
set_option maxHeartbeats 4000000 in
theorem within_t (n p q : Int) (w : World) (h1 : p ≤ n) (h2 : n ≤ q) : Calls Try.prog 34 #[.int .i64 n, .int .i64 p, .int .i64 q] w fun e w' => e = .returned (.bool true) ∧ w' = w := by
  go_enter Try.func34, Try.ntmps34
  go_wp2
  go_ret
  exact ⟨rfl, rfl⟩
set_option maxRecDepth 10000 in
set_option maxHeartbeats 4000000 in
theorem within_lo (n p q : Int) (w : World) (h1 : ¬ p ≤ n) : Calls Try.prog 34 #[.int .i64 n, .int .i64 p, .int .i64 q] w fun e w' => e = .returned (.bool false) ∧ w' = w := by
  go_enter Try.func34, Try.ntmps34
  go_wp2
  go_ret
  exact ⟨rfl, rfl⟩
set_option maxRecDepth 10000 in
set_option maxHeartbeats 4000000 in
theorem within_hi (n p q : Int) (w : World) (h1 : p ≤ n) (h2 : ¬ n ≤ q) : Calls Try.prog 34 #[.int .i64 n, .int .i64 p, .int .i64 q] w fun e w' => e = .returned (.bool false) ∧ w' = w := by
  go_enter Try.func34, Try.ntmps34
  go_wp2
  go_ret
  exact ⟨rfl, rfl⟩
theorem within_f (n p q : Int) (w : World) (h : ¬ (p ≤ n ∧ n ≤ q)) : Calls Try.prog 34 #[.int .i64 n, .int .i64 p, .int .i64 q] w fun e w' => e = .returned (.bool false) ∧ w' = w := by
  by_cases h1 : p ≤ n
  · exact within_hi n p q w h1 (fun h2 => h ⟨h1, h2⟩)
  · exact within_lo n p q w h1
theorem within_any (n p q : Int) (b : Bool) (w : World) (h : Hid (decide (p ≤ n ∧ n ≤ q) = b)) : Calls Try.prog 34 #[.int .i64 n, .int .i64 p, .int .i64 q] w fun e w' => e = .returned (.bool b) ∧ w' = w := by
  by_cases h1 : p ≤ n ∧ n ≤ q
  · rw [← h.out, decide_eq_true h1]; exact within_t n p q w h1.1 h1.2
  · rw [← h.out, decide_eq_false h1]; exact within_f n p q w h1
set_option maxRecDepth 10000 in
set_option maxHeartbeats 4000000 in
theorem may_0 (h : Hd) (w : World)  (c0 : ¬ (h.ve = 4)) : Calls Try.prog 16 #[.agg (hc h).toArray] w fun e w' => e = .returned (.bool false) ∧ Below w.heap.size w w' := by
  go_enter Try.func16, Try.ntmps16
  go_wp2_with (first
    | ((with_reducible refine at_boxD 1 26 ?_); refine L_box 26 _ (hc h) rfl ?_; intro w1 t_ b_h; have hB : Below w.heap.size w w1 := t_.below (Below.refl _ _) (Nat.le_refl _); clear t_)
    | ((with_reducible refine at_loadD 4 3 ?_); refine L_give (by rfl) (g_cell3 _ (w.heap.size) 1 _ rfl (b_h.cell 1 _ rfl) ?_))
    | ((with_reducible refine at_binD 5 ?_); refine L_give (by rfl) (g_ieq 3 _ _ .i64 _ _ false rfl rfl (decide_eq_false c0) ?_)))
  go_ret
  exact ⟨rfl, hB⟩
set_option maxRecDepth 10000 in
set_option maxHeartbeats 4000000 in
theorem may_1 (h : Hd) (w : World) (c0 : h.ve = 4) (c1 : ¬ (0 ≤ h.le ∧ h.le ≤ 3)) : Calls Try.prog 16 #[.agg (hc h).toArray] w fun e w' => e = .returned (.bool false) ∧ Below w.heap.size w w' := by
  go_enter Try.func16, Try.ntmps16
  go_wp2_with (first
    | ((with_reducible refine at_boxD 1 26 ?_); refine L_box 26 _ (hc h) rfl ?_; intro w1 t_ b_h; have hB : Below w.heap.size w w1 := t_.below (Below.refl _ _) (Nat.le_refl _); clear t_)
    | ((with_reducible refine at_loadD 4 3 ?_); refine L_give (by rfl) (g_cell3 _ (w.heap.size) 1 _ rfl (b_h.cell 1 _ rfl) ?_))
    | ((with_reducible refine at_loadD 8 3 ?_); refine L_give (by rfl) (g_cell3 _ (w.heap.size) 0 _ rfl (b_h.cell 0 _ rfl) ?_))
    | ((with_reducible refine at_binD 5 ?_); refine L_give (by rfl) (g_ieq 3 _ _ .i64 _ _ true rfl rfl (decide_eq_true c0) ?_))
    | ((with_reducible refine at_callD 9 ?_); refine L_give (by rfl) (g_call 34 _ _ [.int .i64 h.le, .int .i64 0, .int .i64 3] (kf34 _ _) rfl ((within_f _ _ _ _ c1).mono ?_)); rintro e w_ ⟨rfl, hW⟩; rw [hW]; clear hW w_; refine ⟨_, rfl, ?_⟩))
  go_ret
  exact ⟨rfl, hB⟩
set_option maxRecDepth 10000 in
set_option maxHeartbeats 4000000 in
theorem may_2 (h : Hd) (w : World) (c0 : h.ve = 4) (c1 : 0 ≤ h.le ∧ h.le ≤ 3) (c2 : ¬ (0 ≤ h.mo ∧ h.mo ≤ 7)) : Calls Try.prog 16 #[.agg (hc h).toArray] w fun e w' => e = .returned (.bool false) ∧ Below w.heap.size w w' := by
  go_enter Try.func16, Try.ntmps16
  go_wp2_with (first
    | ((with_reducible refine at_boxD 1 26 ?_); refine L_box 26 _ (hc h) rfl ?_; intro w1 t_ b_h; have hB : Below w.heap.size w w1 := t_.below (Below.refl _ _) (Nat.le_refl _); clear t_)
    | ((with_reducible refine at_loadD 4 3 ?_); refine L_give (by rfl) (g_cell3 _ (w.heap.size) 1 _ rfl (b_h.cell 1 _ rfl) ?_))
    | ((with_reducible refine at_loadD 8 3 ?_); refine L_give (by rfl) (g_cell3 _ (w.heap.size) 0 _ rfl (b_h.cell 0 _ rfl) ?_))
    | ((with_reducible refine at_loadD 13 3 ?_); refine L_give (by rfl) (g_cell3 _ (w.heap.size) 2 _ rfl (b_h.cell 2 _ rfl) ?_))
    | ((with_reducible refine at_binD 5 ?_); refine L_give (by rfl) (g_ieq 3 _ _ .i64 _ _ true rfl rfl (decide_eq_true c0) ?_))
    | ((with_reducible refine at_callD 9 ?_); refine L_give (by rfl) (g_call 34 _ _ [.int .i64 h.le, .int .i64 0, .int .i64 3] (kf34 _ _) rfl ((within_t _ _ _ _ c1.1 c1.2).mono ?_)); rintro e w_ ⟨rfl, hW⟩; rw [hW]; clear hW w_; refine ⟨_, rfl, ?_⟩)
    | ((with_reducible refine at_callD 14 ?_); refine L_give (by rfl) (g_call 34 _ _ [.int .i64 h.mo, .int .i64 0, .int .i64 7] (kf34 _ _) rfl ((within_f _ _ _ _ c2).mono ?_)); rintro e w_ ⟨rfl, hW⟩; rw [hW]; clear hW w_; refine ⟨_, rfl, ?_⟩))
  go_ret
  exact ⟨rfl, hB⟩
set_option maxRecDepth 10000 in
set_option maxHeartbeats 4000000 in
theorem may_3 (h : Hd) (w : World) (c0 : h.ve = 4) (c1 : 0 ≤ h.le ∧ h.le ≤ 3) (c2 : 0 ≤ h.mo ∧ h.mo ≤ 7) (c3 : ¬ (0 ≤ h.st ∧ h.st ≤ 255)) : Calls Try.prog 16 #[.agg (hc h).toArray] w fun e w' => e = .returned (.bool false) ∧ Below w.heap.size w w' := by
  go_enter Try.func16, Try.ntmps16
  go_wp2_with (first
    | ((with_reducible refine at_boxD 1 26 ?_); refine L_box 26 _ (hc h) rfl ?_; intro w1 t_ b_h; have hB : Below w.heap.size w w1 := t_.below (Below.refl _ _) (Nat.le_refl _); clear t_)
    | ((with_reducible refine at_loadD 4 3 ?_); refine L_give (by rfl) (g_cell3 _ (w.heap.size) 1 _ rfl (b_h.cell 1 _ rfl) ?_))
    | ((with_reducible refine at_loadD 8 3 ?_); refine L_give (by rfl) (g_cell3 _ (w.heap.size) 0 _ rfl (b_h.cell 0 _ rfl) ?_))
    | ((with_reducible refine at_loadD 13 3 ?_); refine L_give (by rfl) (g_cell3 _ (w.heap.size) 2 _ rfl (b_h.cell 2 _ rfl) ?_))
    | ((with_reducible refine at_loadD 18 3 ?_); refine L_give (by rfl) (g_cell3 _ (w.heap.size) 3 _ rfl (b_h.cell 3 _ rfl) ?_))
    | ((with_reducible refine at_binD 5 ?_); refine L_give (by rfl) (g_ieq 3 _ _ .i64 _ _ true rfl rfl (decide_eq_true c0) ?_))
    | ((with_reducible refine at_callD 9 ?_); refine L_give (by rfl) (g_call 34 _ _ [.int .i64 h.le, .int .i64 0, .int .i64 3] (kf34 _ _) rfl ((within_t _ _ _ _ c1.1 c1.2).mono ?_)); rintro e w_ ⟨rfl, hW⟩; rw [hW]; clear hW w_; refine ⟨_, rfl, ?_⟩)
    | ((with_reducible refine at_callD 14 ?_); refine L_give (by rfl) (g_call 34 _ _ [.int .i64 h.mo, .int .i64 0, .int .i64 7] (kf34 _ _) rfl ((within_t _ _ _ _ c2.1 c2.2).mono ?_)); rintro e w_ ⟨rfl, hW⟩; rw [hW]; clear hW w_; refine ⟨_, rfl, ?_⟩)
    | ((with_reducible refine at_callD 19 ?_); refine L_give (by rfl) (g_call 34 _ _ [.int .i64 h.st, .int .i64 0, .int .i64 255] (kf34 _ _) rfl ((within_f _ _ _ _ c3).mono ?_)); rintro e w_ ⟨rfl, hW⟩; rw [hW]; clear hW w_; refine ⟨_, rfl, ?_⟩))
  go_ret
  exact ⟨rfl, hB⟩
set_option maxRecDepth 10000 in
set_option maxHeartbeats 4000000 in
theorem may_4 (h : Hd) (w : World) (c0 : h.ve = 4) (c1 : 0 ≤ h.le ∧ h.le ≤ 3) (c2 : 0 ≤ h.mo ∧ h.mo ≤ 7) (c3 : 0 ≤ h.st ∧ h.st ≤ 255) (c4 : ¬ (-128 ≤ h.po ∧ h.po ≤ 127)) : Calls Try.prog 16 #[.agg (hc h).toArray] w fun e w' => e = .returned (.bool false) ∧ Below w.heap.size w w' := by
  go_enter Try.func16, Try.ntmps16
  go_wp2_with (first
    | ((with_reducible refine at_boxD 1 26 ?_); refine L_box 26 _ (hc h) rfl ?_; intro w1 t_ b_h; have hB : Below w.heap.size w w1 := t_.below (Below.refl _ _) (Nat.le_refl _); clear t_)
    | ((with_reducible refine at_loadD 4 3 ?_); refine L_give (by rfl) (g_cell3 _ (w.heap.size) 1 _ rfl (b_h.cell 1 _ rfl) ?_))
    | ((with_reducible refine at_loadD 8 3 ?_); refine L_give (by rfl) (g_cell3 _ (w.heap.size) 0 _ rfl (b_h.cell 0 _ rfl) ?_))
    | ((with_reducible refine at_loadD 13 3 ?_); refine L_give (by rfl) (g_cell3 _ (w.heap.size) 2 _ rfl (b_h.cell 2 _ rfl) ?_))
    | ((with_reducible refine at_loadD 18 3 ?_); refine L_give (by rfl) (g_cell3 _ (w.heap.size) 3 _ rfl (b_h.cell 3 _ rfl) ?_))
    | ((with_reducible refine at_loadD 23 3 ?_); refine L_give (by rfl) (g_cell3 _ (w.heap.size) 4 _ rfl (b_h.cell 4 _ rfl) ?_))
    | ((with_reducible refine at_binD 5 ?_); refine L_give (by rfl) (g_ieq 3 _ _ .i64 _ _ true rfl rfl (decide_eq_true c0) ?_))
    | ((with_reducible refine at_callD 9 ?_); refine L_give (by rfl) (g_call 34 _ _ [.int .i64 h.le, .int .i64 0, .int .i64 3] (kf34 _ _) rfl ((within_t _ _ _ _ c1.1 c1.2).mono ?_)); rintro e w_ ⟨rfl, hW⟩; rw [hW]; clear hW w_; refine ⟨_, rfl, ?_⟩)
    | ((with_reducible refine at_callD 14 ?_); refine L_give (by rfl) (g_call 34 _ _ [.int .i64 h.mo, .int .i64 0, .int .i64 7] (kf34 _ _) rfl ((within_t _ _ _ _ c2.1 c2.2).mono ?_)); rintro e w_ ⟨rfl, hW⟩; rw [hW]; clear hW w_; refine ⟨_, rfl, ?_⟩)
    | ((with_reducible refine at_callD 19 ?_); refine L_give (by rfl) (g_call 34 _ _ [.int .i64 h.st, .int .i64 0, .int .i64 255] (kf34 _ _) rfl ((within_t _ _ _ _ c3.1 c3.2).mono ?_)); rintro e w_ ⟨rfl, hW⟩; rw [hW]; clear hW w_; refine ⟨_, rfl, ?_⟩)
    | ((with_reducible refine at_callD 24 ?_); refine L_give (by rfl) (g_call 34 _ _ [.int .i64 h.po, .int .i64 (-128), .int .i64 127] (kf34 _ _) rfl ((within_f _ _ _ _ c4).mono ?_)); rintro e w_ ⟨rfl, hW⟩; rw [hW]; clear hW w_; refine ⟨_, rfl, ?_⟩))
  go_ret
  exact ⟨rfl, hB⟩
set_option maxRecDepth 10000 in
set_option maxHeartbeats 4000000 in
theorem may_5 (h : Hd) (w : World) (c0 : h.ve = 4) (c1 : 0 ≤ h.le ∧ h.le ≤ 3) (c2 : 0 ≤ h.mo ∧ h.mo ≤ 7) (c3 : 0 ≤ h.st ∧ h.st ≤ 255) (c4 : -128 ≤ h.po ∧ h.po ≤ 127) (c5 : ¬ (-128 ≤ h.pr ∧ h.pr ≤ 127)) : Calls Try.prog 16 #[.agg (hc h).toArray] w fun e w' => e = .returned (.bool false) ∧ Below w.heap.size w w' := by
  go_enter Try.func16, Try.ntmps16
  go_wp2_with (first
    | ((with_reducible refine at_boxD 1 26 ?_); refine L_box 26 _ (hc h) rfl ?_; intro w1 t_ b_h; have hB : Below w.heap.size w w1 := t_.below (Below.refl _ _) (Nat.le_refl _); clear t_)
    | ((with_reducible refine at_loadD 4 3 ?_); refine L_give (by rfl) (g_cell3 _ (w.heap.size) 1 _ rfl (b_h.cell 1 _ rfl) ?_))
    | ((with_reducible refine at_loadD 8 3 ?_); refine L_give (by rfl) (g_cell3 _ (w.heap.size) 0 _ rfl (b_h.cell 0 _ rfl) ?_))
    | ((with_reducible refine at_loadD 13 3 ?_); refine L_give (by rfl) (g_cell3 _ (w.heap.size) 2 _ rfl (b_h.cell 2 _ rfl) ?_))
    | ((with_reducible refine at_loadD 18 3 ?_); refine L_give (by rfl) (g_cell3 _ (w.heap.size) 3 _ rfl (b_h.cell 3 _ rfl) ?_))
    | ((with_reducible refine at_loadD 23 3 ?_); refine L_give (by rfl) (g_cell3 _ (w.heap.size) 4 _ rfl (b_h.cell 4 _ rfl) ?_))
    | ((with_reducible refine at_loadD 28 3 ?_); refine L_give (by rfl) (g_cell3 _ (w.heap.size) 5 _ rfl (b_h.cell 5 _ rfl) ?_))
    | ((with_reducible refine at_binD 5 ?_); refine L_give (by rfl) (g_ieq 3 _ _ .i64 _ _ true rfl rfl (decide_eq_true c0) ?_))
    | ((with_reducible refine at_callD 9 ?_); refine L_give (by rfl) (g_call 34 _ _ [.int .i64 h.le, .int .i64 0, .int .i64 3] (kf34 _ _) rfl ((within_t _ _ _ _ c1.1 c1.2).mono ?_)); rintro e w_ ⟨rfl, hW⟩; rw [hW]; clear hW w_; refine ⟨_, rfl, ?_⟩)
    | ((with_reducible refine at_callD 14 ?_); refine L_give (by rfl) (g_call 34 _ _ [.int .i64 h.mo, .int .i64 0, .int .i64 7] (kf34 _ _) rfl ((within_t _ _ _ _ c2.1 c2.2).mono ?_)); rintro e w_ ⟨rfl, hW⟩; rw [hW]; clear hW w_; refine ⟨_, rfl, ?_⟩)
    | ((with_reducible refine at_callD 19 ?_); refine L_give (by rfl) (g_call 34 _ _ [.int .i64 h.st, .int .i64 0, .int .i64 255] (kf34 _ _) rfl ((within_t _ _ _ _ c3.1 c3.2).mono ?_)); rintro e w_ ⟨rfl, hW⟩; rw [hW]; clear hW w_; refine ⟨_, rfl, ?_⟩)
    | ((with_reducible refine at_callD 24 ?_); refine L_give (by rfl) (g_call 34 _ _ [.int .i64 h.po, .int .i64 (-128), .int .i64 127] (kf34 _ _) rfl ((within_t _ _ _ _ c4.1 c4.2).mono ?_)); rintro e w_ ⟨rfl, hW⟩; rw [hW]; clear hW w_; refine ⟨_, rfl, ?_⟩)
    | ((with_reducible refine at_callD 29 ?_); refine L_give (by rfl) (g_call 34 _ _ [.int .i64 h.pr, .int .i64 (-128), .int .i64 127] (kf34 _ _) rfl ((within_f _ _ _ _ c5).mono ?_)); rintro e w_ ⟨rfl, hW⟩; rw [hW]; clear hW w_; refine ⟨_, rfl, ?_⟩))
  go_ret
  exact ⟨rfl, hB⟩
set_option maxRecDepth 10000 in
set_option maxHeartbeats 4000000 in
theorem may_6 (h : Hd) (w : World) (c0 : h.ve = 4) (c1 : 0 ≤ h.le ∧ h.le ≤ 3) (c2 : 0 ≤ h.mo ∧ h.mo ≤ 7) (c3 : 0 ≤ h.st ∧ h.st ≤ 255) (c4 : -128 ≤ h.po ∧ h.po ≤ 127) (c5 : -128 ≤ h.pr ∧ h.pr ≤ 127) : Calls Try.prog 16 #[.agg (hc h).toArray] w fun e w' => e = .returned (.bool true) ∧ Below w.heap.size w w' := by
  go_enter Try.func16, Try.ntmps16
  go_wp2_with (first
    | ((with_reducible refine at_boxD 1 26 ?_); refine L_box 26 _ (hc h) rfl ?_; intro w1 t_ b_h; have hB : Below w.heap.size w w1 := t_.below (Below.refl _ _) (Nat.le_refl _); clear t_)
    | ((with_reducible refine at_loadD 4 3 ?_); refine L_give (by rfl) (g_cell3 _ (w.heap.size) 1 _ rfl (b_h.cell 1 _ rfl) ?_))
    | ((with_reducible refine at_loadD 8 3 ?_); refine L_give (by rfl) (g_cell3 _ (w.heap.size) 0 _ rfl (b_h.cell 0 _ rfl) ?_))
    | ((with_reducible refine at_loadD 13 3 ?_); refine L_give (by rfl) (g_cell3 _ (w.heap.size) 2 _ rfl (b_h.cell 2 _ rfl) ?_))
    | ((with_reducible refine at_loadD 18 3 ?_); refine L_give (by rfl) (g_cell3 _ (w.heap.size) 3 _ rfl (b_h.cell 3 _ rfl) ?_))
    | ((with_reducible refine at_loadD 23 3 ?_); refine L_give (by rfl) (g_cell3 _ (w.heap.size) 4 _ rfl (b_h.cell 4 _ rfl) ?_))
    | ((with_reducible refine at_loadD 28 3 ?_); refine L_give (by rfl) (g_cell3 _ (w.heap.size) 5 _ rfl (b_h.cell 5 _ rfl) ?_))
    | ((with_reducible refine at_binD 5 ?_); refine L_give (by rfl) (g_ieq 3 _ _ .i64 _ _ true rfl rfl (decide_eq_true c0) ?_))
    | ((with_reducible refine at_callD 9 ?_); refine L_give (by rfl) (g_call 34 _ _ [.int .i64 h.le, .int .i64 0, .int .i64 3] (kf34 _ _) rfl ((within_t _ _ _ _ c1.1 c1.2).mono ?_)); rintro e w_ ⟨rfl, hW⟩; rw [hW]; clear hW w_; refine ⟨_, rfl, ?_⟩)
    | ((with_reducible refine at_callD 14 ?_); refine L_give (by rfl) (g_call 34 _ _ [.int .i64 h.mo, .int .i64 0, .int .i64 7] (kf34 _ _) rfl ((within_t _ _ _ _ c2.1 c2.2).mono ?_)); rintro e w_ ⟨rfl, hW⟩; rw [hW]; clear hW w_; refine ⟨_, rfl, ?_⟩)
    | ((with_reducible refine at_callD 19 ?_); refine L_give (by rfl) (g_call 34 _ _ [.int .i64 h.st, .int .i64 0, .int .i64 255] (kf34 _ _) rfl ((within_t _ _ _ _ c3.1 c3.2).mono ?_)); rintro e w_ ⟨rfl, hW⟩; rw [hW]; clear hW w_; refine ⟨_, rfl, ?_⟩)
    | ((with_reducible refine at_callD 24 ?_); refine L_give (by rfl) (g_call 34 _ _ [.int .i64 h.po, .int .i64 (-128), .int .i64 127] (kf34 _ _) rfl ((within_t _ _ _ _ c4.1 c4.2).mono ?_)); rintro e w_ ⟨rfl, hW⟩; rw [hW]; clear hW w_; refine ⟨_, rfl, ?_⟩)
    | ((with_reducible refine at_callD 29 ?_); refine L_give (by rfl) (g_call 34 _ _ [.int .i64 h.pr, .int .i64 (-128), .int .i64 127] (kf34 _ _) rfl ((within_t _ _ _ _ c5.1 c5.2).mono ?_)); rintro e w_ ⟨rfl, hW⟩; rw [hW]; clear hW w_; refine ⟨_, rfl, ?_⟩))
  go_ret
  exact ⟨rfl, hB⟩
theorem may_any (h : Hd) (b : Bool) (w : World) (hb : Hid (may h = b)) : Calls Try.prog 16 #[.agg (hc h).toArray] w fun e w' => e = .returned (.bool b) ∧ Below w.heap.size w w' := by
  have hf : ∀ i : Mays h → False, may h = false := fun i => decide_eq_false i
  by_cases c0 : h.ve = 4
  · by_cases c1 : 0 ≤ h.le ∧ h.le ≤ 3
    · by_cases c2 : 0 ≤ h.mo ∧ h.mo ≤ 7
      · by_cases c3 : 0 ≤ h.st ∧ h.st ≤ 255
        · by_cases c4 : -128 ≤ h.po ∧ h.po ≤ 127
          · by_cases c5 : -128 ≤ h.pr ∧ h.pr ≤ 127
            · rw [← hb.out, show may h = true from decide_eq_true ⟨c0, c1, c2, c3, c4, c5⟩]; exact may_6 h w c0 c1 c2 c3 c4 c5
            · rw [← hb.out, hf (fun i => c5 i.2.2.2.2.2)]; exact may_5 h w c0 c1 c2 c3 c4 c5
          · rw [← hb.out, hf (fun i => c4 i.2.2.2.2.1)]; exact may_4 h w c0 c1 c2 c3 c4
        · rw [← hb.out, hf (fun i => c3 i.2.2.2.1)]; exact may_3 h w c0 c1 c2 c3
      · rw [← hb.out, hf (fun i => c2 i.2.2.1)]; exact may_2 h w c0 c1 c2
    · rw [← hb.out, hf (fun i => c1 i.2.1)]; exact may_1 h w c0 c1
  · rw [← hb.out, hf (fun i => c0 i.1)]; exact may_0 h w c0
end Go.Proofs.Yteieacamokoejaa
