/- HeadStamps: the walk. -/
import Derived.Test.YteieacamokoejaaLawA
namespace Go.Proofs.Yteieacamokoejaa.headStamps
open Go Go.RowKit
set_option linter.unusedVariables false
set_option linter.unusedSimpArgs false

set_option maxRecDepth 10000 in
set_option maxHeartbeats 4000000 in
theorem walk1 (h : Hd) (wh x : Int) (w : World) (hi : InH h) (hwh : 0 ≤ wh ∧ wh < 256) (hx : InU64 x) (hT : Hid (pt h = (ByteArray.empty, 2))) : Calls Try.prog 10 #[.agg (hc h).toArray, .int .u8 wh, .int .u64 x] w fun e w' => e = .returned (.bool true) ∧ Below w.heap.size w w' := by
  go_enter Try.func10, Try.ntmps10
  (try simp only [List.append_eq, List.cons_append, List.nil_append])
  go_wp2_with (first
    | ((with_reducible refine at_boxD 3 26 ?_); refine L_box 26 _ (hc (h)) rfl ?_; intro w1 t_ b_h; have l_hB_h : w.heap.size ≤ w.heap.size := Nat.le_refl _; have hB : Below w.heap.size w w1 := t_.below (Below.refl _ _) (Nat.le_refl _); clear t_; (try simp only [Act.put, List.setIfInBounds_toArray, List.set_cons_zero, List.set_cons_succ]))
    | ((with_reducible refine at_callD 13 ?_); refine L_give (by rfl) (g_call 11 _ _ [] (kf11 _ _) rfl ((awake_any w1).mono ?_)); rintro e w2 ⟨rfl, t_⟩; refine ⟨_, rfl, ?_⟩; replace b_h := b_h.below t_ b_h.lt; replace hB := hB.trans (t_.mono hB.size); clear t_; (try simp only [Act.put, List.setIfInBounds_toArray, List.set_cons_zero, List.set_cons_succ]))
    | ((with_reducible refine at_loadD 16 26 ?_); refine L_give (by rfl) (g_load_all 26 _ (w.heap.size) (hc (h)) 26 _ rfl (b_h) Try.underlying26 rfl (szH hz) ?_); (try simp only [Act.put, List.setIfInBounds_toArray, List.set_cons_zero, List.set_cons_succ]))
    | ((with_reducible refine at_callD 17 ?_); refine L_give (by rfl) (g_call 12 _ _ [.agg (hc (h)).toArray] (kf12 _ _) rfl ((hput_any h ByteArray.empty 2 w2 hi hT).mono ?_)); rintro e w3 ⟨rfl, t_⟩; refine ⟨_, rfl, ?_⟩; replace b_h := b_h.below t_ b_h.lt; replace hB := hB.trans (t_.mono hB.size); clear t_; (try simp only [Act.put, List.setIfInBounds_toArray, List.set_cons_zero, List.set_cons_succ]))
    | ((with_reducible refine at_binD 21 ?_); refine L_give (by rfl) (g_ine 28 _ _ .i64 _ _ true rfl rfl (by decide) ?_); (try simp only [Act.put, List.setIfInBounds_toArray, List.set_cons_zero, List.set_cons_succ])))
  go_ret
  exact ⟨rfl, hB⟩
set_option maxRecDepth 10000 in
set_option maxHeartbeats 4000000 in
theorem walk2_0 (h : Hd) (wh x : Int) (w : World) (hi : InH h) (hwh : 0 ≤ wh ∧ wh < 256) (hx : InU64 x) (A B U V : ByteArray) (ek : Hid (wh.tmod 4 = 0)) (hA : Hid (pt h = (A, 0))) (hi2 : InH { h with re := x }) (hB2 : Hid (pt { h with re := x } = (B, 0))) (zA : A.size = 48) (zB : B.size = 48) (eU1 : Hid (A.extract 0 16 = U)) (eU2 : Hid (B.extract 0 16 = U)) (eV1 : Hid (A.extract 24 A.size = V)) (eV2 : Hid (B.extract 24 B.size = V)) : Calls Try.prog 10 #[.agg (hc h).toArray, .int .u8 wh, .int .u64 x] w fun e w' => e = .returned (.bool true) ∧ Below w.heap.size w w' := by
  go_enter Try.func10, Try.ntmps10
  (try simp only [List.append_eq, List.cons_append, List.nil_append])
  go_wp2_with (first
    | ((with_reducible refine at_boxD 3 26 ?_); refine L_box 26 _ (hc (h)) rfl ?_; intro w1 t_ b_h; have l_hB_h : w.heap.size ≤ w.heap.size := Nat.le_refl _; have hB : Below w.heap.size w w1 := t_.below (Below.refl _ _) (Nat.le_refl _); clear t_; (try simp only [Act.put, List.setIfInBounds_toArray, List.set_cons_zero, List.set_cons_succ]))
    | ((with_reducible refine at_callD 13 ?_); refine L_give (by rfl) (g_call 11 _ _ [] (kf11 _ _) rfl ((awake_any w1).mono ?_)); rintro e w2 ⟨rfl, t_⟩; refine ⟨_, rfl, ?_⟩; replace b_h := b_h.below t_ b_h.lt; replace hB := hB.trans (t_.mono hB.size); clear t_; (try simp only [Act.put, List.setIfInBounds_toArray, List.set_cons_zero, List.set_cons_succ]))
    | ((with_reducible refine at_loadD 16 26 ?_); refine L_give (by rfl) (g_load_all 26 _ (w.heap.size) (hc (h)) 26 _ rfl (b_h) Try.underlying26 rfl (szH hz) ?_); (try simp only [Act.put, List.setIfInBounds_toArray, List.set_cons_zero, List.set_cons_succ]))
    | ((with_reducible refine at_callD 17 ?_); refine L_give (by rfl) (g_call 12 _ _ [.agg (hc (h)).toArray] (kf12 _ _) rfl ((hput_any h A 0 w2 hi hA).mono ?_)); rintro e w3 ⟨rfl, t_⟩; refine ⟨_, rfl, ?_⟩; replace b_h := b_h.below t_ b_h.lt; replace hB := hB.trans (t_.mono hB.size); clear t_; (try simp only [Act.put, List.setIfInBounds_toArray, List.set_cons_zero, List.set_cons_succ]))
    | ((with_reducible refine at_binD 21 ?_); refine L_give (by rfl) (g_ine 28 _ _ .i64 _ _ false rfl rfl (by decide) ?_); (try simp only [Act.put, List.setIfInBounds_toArray, List.set_cons_zero, List.set_cons_succ]))
    | ((with_reducible refine at_binD 23 ?_); refine L_give (by rfl) (g_irem 5 _ _ .u8 _ _ 0 rfl rfl (by decide) ek.out ?_); (try simp only [Act.put, List.setIfInBounds_toArray, List.set_cons_zero, List.set_cons_succ]))
    | ((with_reducible refine at_cnv 24 ?_); refine L_give (by rfl) (g_cv_5_3 _ _ _ rfl (by decide) ?_); (try simp only [Act.put, List.setIfInBounds_toArray, List.set_cons_zero, List.set_cons_succ]))
    | ((with_reducible refine at_binD 29 ?_); refine L_give (by rfl) (g_ieq 3 _ _ .i64 _ _ true rfl rfl (by decide) ?_); (try simp only [Act.put, List.setIfInBounds_toArray, List.set_cons_zero, List.set_cons_succ]))
    | ((with_reducible refine at_storeX 31 24 ?_); refine L_give (by rfl) (g_stc24 _ _ (w.heap.size) 9 (.int .u64 h.re) (.int .u64 x) (hc h) 26 rfl rfl ⟨_, _, rfl⟩ b_h rfl ?_); intro w4 t_ b2; clear b_h; replace b_h : Blk w4 (w.heap.size) (hc { h with re := x }) 26 := b2; clear b2; replace hB := t_.below hB l_hB_h; clear t_)
    | ((with_reducible refine at_loadD 41 26 ?_); refine L_give (by rfl) (g_load_all 26 _ (w.heap.size) (hc { h with re := x }) 26 _ rfl (b_h) Try.underlying26 rfl (szH hz) ?_); (try simp only [Act.put, List.setIfInBounds_toArray, List.set_cons_zero, List.set_cons_succ]))
    | ((with_reducible refine at_callD 42 ?_); refine L_give (by rfl) (g_call 12 _ _ [.agg (hc ({ h with re := x })).toArray] (kf12 _ _) rfl ((hput_any { h with re := x } B 0 w4 hi2 hB2).mono ?_)); rintro e w5 ⟨rfl, t_⟩; refine ⟨_, rfl, ?_⟩; replace b_h := b_h.below t_ b_h.lt; replace hB := hB.trans (t_.mono hB.size); clear t_; (try simp only [Act.put, List.setIfInBounds_toArray, List.set_cons_zero, List.set_cons_succ]))
    | ((with_reducible refine at_binD 46 ?_); refine L_give (by rfl) (g_imul 3 _ _ .i64 _ _ 0 rfl rfl (by decide) ?_); (try simp only [Act.put, List.setIfInBounds_toArray, List.set_cons_zero, List.set_cons_succ]))
    | ((with_reducible refine at_binD 47 ?_); refine L_give (by rfl) (g_iadd 3 _ _ .i64 _ _ 16 rfl rfl (by decide) ?_); (try simp only [Act.put, List.setIfInBounds_toArray, List.set_cons_zero, List.set_cons_succ]))
    | (refine stop_region 17 ?_; intro X hX))
  refine hX.out ?_
  clear hX X
  refine wp_region_fixed (by kernel_rfl) (by kernel_rfl) [.int .i64 (0), .bool true, .bool true, .string (A), .int .i64 (A.size), .bool true, .bool true, .bool true, .string (B), .int .i64 (B.size), .bool true, .bool true, .bool true, .string (A), .int .i64 (16), .string (U), .string (B), .int .i64 (16), .string (U), .bool true, .bool true, .bool true, .string (A), .int .i64 (16), .int .i64 (24), .string (V), .string (B), .int .i64 (16), .int .i64 (24), .string (V), .bool true, .bool true, .bool true] (by rfl) (fun w' => Below w5.heap.size w5 w') (Below.refl _ _).drew ?_ ?_
  · simp only [fullL, Act.put, List.setIfInBounds_toArray, List.set_cons_succ, List.set_cons_zero]
    refine ⟨?_, ?_, ?_, ?_, ?_, ?_, ?_, ?_, ?_, ?_, ?_, ?_, ?_, ?_, ?_, ?_, ?_, ?_, ?_, ?_, ?_, ?_, ?_, ?_, ?_, ?_, ?_, ?_, ?_, ?_, ?_, ?_, ?_, trivial⟩
    · exact fun wx hw => gw rfl (g_move _ _ rfl ⟨rfl, hw⟩)
    · exact fun wx hw => gw rfl (g_ieq 28 _ _ .i64 _ _ true rfl rfl (by decide) ⟨rfl, hw⟩)
    · exact fun wx hw => gw rfl (g_move _ _ rfl ⟨rfl, hw⟩)
    · exact fun wx hw => gw rfl (g_move _ _ rfl ⟨rfl, hw⟩)
    · exact fun wx hw => gw rfl (g_slen _ _ _ rfl rfl ⟨rfl, hw⟩)
    · exact fun wx hw => gw rfl (g_ieq 3 _ _ .i64 _ _ true rfl rfl (decide_eq_true (by omega)) ⟨rfl, hw⟩)
    · exact fun wx hw => gw rfl (g_pickt _ _ _ _ rfl rfl ⟨rfl, hw⟩)
    · exact fun wx hw => gw rfl (g_move _ _ rfl ⟨rfl, hw⟩)
    · exact fun wx hw => gw rfl (g_move _ _ rfl ⟨rfl, hw⟩)
    · exact fun wx hw => gw rfl (g_slen _ _ _ rfl rfl ⟨rfl, hw⟩)
    · exact fun wx hw => gw rfl (g_ieq 3 _ _ .i64 _ _ true rfl rfl (decide_eq_true (by omega)) ⟨rfl, hw⟩)
    · exact fun wx hw => gw rfl (g_pickt _ _ _ _ rfl rfl ⟨rfl, hw⟩)
    · exact fun wx hw => gw rfl (g_move _ _ rfl ⟨rfl, hw⟩)
    · exact fun wx hw => gw rfl (g_move _ _ rfl ⟨rfl, hw⟩)
    · exact fun wx hw => gw rfl (g_move _ _ rfl ⟨rfl, hw⟩)
    · exact fun wx hw => gw rfl (g_sl_h _ _ A U 16 rfl rfl (by omega) eU1.out ⟨rfl, hw⟩)
    · exact fun wx hw => gw rfl (g_move _ _ rfl ⟨rfl, hw⟩)
    · exact fun wx hw => gw rfl (g_move _ _ rfl ⟨rfl, hw⟩)
    · exact fun wx hw => gw rfl (g_sl_h _ _ B U 16 rfl rfl (by omega) eU2.out ⟨rfl, hw⟩)
    · exact fun wx hw => gw rfl (g_seql 9 _ _ (U) (U) true rfl rfl (decide_eq_true rfl) ⟨rfl, hw⟩)
    · exact fun wx hw => gw rfl (g_pickt _ _ _ _ rfl rfl ⟨rfl, hw⟩)
    · exact fun wx hw => gw rfl (g_move _ _ rfl ⟨rfl, hw⟩)
    · exact fun wx hw => gw rfl (g_move _ _ rfl ⟨rfl, hw⟩)
    · exact fun wx hw => gw rfl (g_move _ _ rfl ⟨rfl, hw⟩)
    · exact fun wx hw => gw rfl (g_iadd 3 _ _ .i64 _ _ 24 rfl rfl (by decide) ⟨rfl, hw⟩)
    · exact fun wx hw => gw rfl (g_sl_l _ _ A V 24 rfl rfl (by omega) eV1.out ⟨rfl, hw⟩)
    · exact fun wx hw => gw rfl (g_move _ _ rfl ⟨rfl, hw⟩)
    · exact fun wx hw => gw rfl (g_move _ _ rfl ⟨rfl, hw⟩)
    · exact fun wx hw => gw rfl (g_iadd 3 _ _ .i64 _ _ 24 rfl rfl (by decide) ⟨rfl, hw⟩)
    · exact fun wx hw => gw rfl (g_sl_l _ _ B V 24 rfl rfl (by omega) eV2.out ⟨rfl, hw⟩)
    · exact fun wx hw => gw rfl (g_seql 9 _ _ (V) (V) true rfl rfl (decide_eq_true rfl) ⟨rfl, hw⟩)
    · exact fun wx hw => gw rfl (g_pickt _ _ _ _ rfl rfl ⟨rfl, hw⟩)
    · exact fun wx hw => gw rfl (g_assign _ _ rfl ⟨rfl, hw⟩)
  · simp only [fullL, Act.put, List.setIfInBounds_toArray, List.set_cons_succ, List.set_cons_zero]
    intro w6 t_
    replace b_h := b_h.below t_ b_h.lt
    replace hB := hB.trans (t_.mono hB.size)
    clear t_
    go_wp2_with fail
    go_ret
    exact ⟨rfl, hB⟩
set_option maxRecDepth 10000 in
set_option maxHeartbeats 4000000 in
theorem walk2_1 (h : Hd) (wh x : Int) (w : World) (hi : InH h) (hwh : 0 ≤ wh ∧ wh < 256) (hx : InU64 x) (A B U V : ByteArray) (ek : Hid (wh.tmod 4 = 1)) (hA : Hid (pt h = (A, 0))) (hi2 : InH { h with og := x }) (hB2 : Hid (pt { h with og := x } = (B, 0))) (zA : A.size = 48) (zB : B.size = 48) (eU1 : Hid (A.extract 0 24 = U)) (eU2 : Hid (B.extract 0 24 = U)) (eV1 : Hid (A.extract 32 A.size = V)) (eV2 : Hid (B.extract 32 B.size = V)) : Calls Try.prog 10 #[.agg (hc h).toArray, .int .u8 wh, .int .u64 x] w fun e w' => e = .returned (.bool true) ∧ Below w.heap.size w w' := by
  go_enter Try.func10, Try.ntmps10
  (try simp only [List.append_eq, List.cons_append, List.nil_append])
  go_wp2_with (first
    | ((with_reducible refine at_boxD 3 26 ?_); refine L_box 26 _ (hc (h)) rfl ?_; intro w1 t_ b_h; have l_hB_h : w.heap.size ≤ w.heap.size := Nat.le_refl _; have hB : Below w.heap.size w w1 := t_.below (Below.refl _ _) (Nat.le_refl _); clear t_; (try simp only [Act.put, List.setIfInBounds_toArray, List.set_cons_zero, List.set_cons_succ]))
    | ((with_reducible refine at_callD 13 ?_); refine L_give (by rfl) (g_call 11 _ _ [] (kf11 _ _) rfl ((awake_any w1).mono ?_)); rintro e w2 ⟨rfl, t_⟩; refine ⟨_, rfl, ?_⟩; replace b_h := b_h.below t_ b_h.lt; replace hB := hB.trans (t_.mono hB.size); clear t_; (try simp only [Act.put, List.setIfInBounds_toArray, List.set_cons_zero, List.set_cons_succ]))
    | ((with_reducible refine at_loadD 16 26 ?_); refine L_give (by rfl) (g_load_all 26 _ (w.heap.size) (hc (h)) 26 _ rfl (b_h) Try.underlying26 rfl (szH hz) ?_); (try simp only [Act.put, List.setIfInBounds_toArray, List.set_cons_zero, List.set_cons_succ]))
    | ((with_reducible refine at_callD 17 ?_); refine L_give (by rfl) (g_call 12 _ _ [.agg (hc (h)).toArray] (kf12 _ _) rfl ((hput_any h A 0 w2 hi hA).mono ?_)); rintro e w3 ⟨rfl, t_⟩; refine ⟨_, rfl, ?_⟩; replace b_h := b_h.below t_ b_h.lt; replace hB := hB.trans (t_.mono hB.size); clear t_; (try simp only [Act.put, List.setIfInBounds_toArray, List.set_cons_zero, List.set_cons_succ]))
    | ((with_reducible refine at_binD 21 ?_); refine L_give (by rfl) (g_ine 28 _ _ .i64 _ _ false rfl rfl (by decide) ?_); (try simp only [Act.put, List.setIfInBounds_toArray, List.set_cons_zero, List.set_cons_succ]))
    | ((with_reducible refine at_binD 23 ?_); refine L_give (by rfl) (g_irem 5 _ _ .u8 _ _ 1 rfl rfl (by decide) ek.out ?_); (try simp only [Act.put, List.setIfInBounds_toArray, List.set_cons_zero, List.set_cons_succ]))
    | ((with_reducible refine at_cnv 24 ?_); refine L_give (by rfl) (g_cv_5_3 _ _ _ rfl (by decide) ?_); (try simp only [Act.put, List.setIfInBounds_toArray, List.set_cons_zero, List.set_cons_succ]))
    | ((with_reducible refine at_binD 29 ?_); refine L_give (by rfl) (g_ieq 3 _ _ .i64 _ _ false rfl rfl (by decide) ?_); (try simp only [Act.put, List.setIfInBounds_toArray, List.set_cons_zero, List.set_cons_succ]))
    | ((with_reducible refine at_binD 33 ?_); refine L_give (by rfl) (g_ieq 3 _ _ .i64 _ _ true rfl rfl (by decide) ?_); (try simp only [Act.put, List.setIfInBounds_toArray, List.set_cons_zero, List.set_cons_succ]))
    | ((with_reducible refine at_storeX 35 24 ?_); refine L_give (by rfl) (g_stc24 _ _ (w.heap.size) 10 (.int .u64 h.og) (.int .u64 x) (hc h) 26 rfl rfl ⟨_, _, rfl⟩ b_h rfl ?_); intro w4 t_ b2; clear b_h; replace b_h : Blk w4 (w.heap.size) (hc { h with og := x }) 26 := b2; clear b2; replace hB := t_.below hB l_hB_h; clear t_)
    | ((with_reducible refine at_loadD 41 26 ?_); refine L_give (by rfl) (g_load_all 26 _ (w.heap.size) (hc { h with og := x }) 26 _ rfl (b_h) Try.underlying26 rfl (szH hz) ?_); (try simp only [Act.put, List.setIfInBounds_toArray, List.set_cons_zero, List.set_cons_succ]))
    | ((with_reducible refine at_callD 42 ?_); refine L_give (by rfl) (g_call 12 _ _ [.agg (hc ({ h with og := x })).toArray] (kf12 _ _) rfl ((hput_any { h with og := x } B 0 w4 hi2 hB2).mono ?_)); rintro e w5 ⟨rfl, t_⟩; refine ⟨_, rfl, ?_⟩; replace b_h := b_h.below t_ b_h.lt; replace hB := hB.trans (t_.mono hB.size); clear t_; (try simp only [Act.put, List.setIfInBounds_toArray, List.set_cons_zero, List.set_cons_succ]))
    | ((with_reducible refine at_binD 46 ?_); refine L_give (by rfl) (g_imul 3 _ _ .i64 _ _ 8 rfl rfl (by decide) ?_); (try simp only [Act.put, List.setIfInBounds_toArray, List.set_cons_zero, List.set_cons_succ]))
    | ((with_reducible refine at_binD 47 ?_); refine L_give (by rfl) (g_iadd 3 _ _ .i64 _ _ 24 rfl rfl (by decide) ?_); (try simp only [Act.put, List.setIfInBounds_toArray, List.set_cons_zero, List.set_cons_succ]))
    | (refine stop_region 17 ?_; intro X hX))
  refine hX.out ?_
  clear hX X
  refine wp_region_fixed (by kernel_rfl) (by kernel_rfl) [.int .i64 (0), .bool true, .bool true, .string (A), .int .i64 (A.size), .bool true, .bool true, .bool true, .string (B), .int .i64 (B.size), .bool true, .bool true, .bool true, .string (A), .int .i64 (24), .string (U), .string (B), .int .i64 (24), .string (U), .bool true, .bool true, .bool true, .string (A), .int .i64 (24), .int .i64 (32), .string (V), .string (B), .int .i64 (24), .int .i64 (32), .string (V), .bool true, .bool true, .bool true] (by rfl) (fun w' => Below w5.heap.size w5 w') (Below.refl _ _).drew ?_ ?_
  · simp only [fullL, Act.put, List.setIfInBounds_toArray, List.set_cons_succ, List.set_cons_zero]
    refine ⟨?_, ?_, ?_, ?_, ?_, ?_, ?_, ?_, ?_, ?_, ?_, ?_, ?_, ?_, ?_, ?_, ?_, ?_, ?_, ?_, ?_, ?_, ?_, ?_, ?_, ?_, ?_, ?_, ?_, ?_, ?_, ?_, ?_, trivial⟩
    · exact fun wx hw => gw rfl (g_move _ _ rfl ⟨rfl, hw⟩)
    · exact fun wx hw => gw rfl (g_ieq 28 _ _ .i64 _ _ true rfl rfl (by decide) ⟨rfl, hw⟩)
    · exact fun wx hw => gw rfl (g_move _ _ rfl ⟨rfl, hw⟩)
    · exact fun wx hw => gw rfl (g_move _ _ rfl ⟨rfl, hw⟩)
    · exact fun wx hw => gw rfl (g_slen _ _ _ rfl rfl ⟨rfl, hw⟩)
    · exact fun wx hw => gw rfl (g_ieq 3 _ _ .i64 _ _ true rfl rfl (decide_eq_true (by omega)) ⟨rfl, hw⟩)
    · exact fun wx hw => gw rfl (g_pickt _ _ _ _ rfl rfl ⟨rfl, hw⟩)
    · exact fun wx hw => gw rfl (g_move _ _ rfl ⟨rfl, hw⟩)
    · exact fun wx hw => gw rfl (g_move _ _ rfl ⟨rfl, hw⟩)
    · exact fun wx hw => gw rfl (g_slen _ _ _ rfl rfl ⟨rfl, hw⟩)
    · exact fun wx hw => gw rfl (g_ieq 3 _ _ .i64 _ _ true rfl rfl (decide_eq_true (by omega)) ⟨rfl, hw⟩)
    · exact fun wx hw => gw rfl (g_pickt _ _ _ _ rfl rfl ⟨rfl, hw⟩)
    · exact fun wx hw => gw rfl (g_move _ _ rfl ⟨rfl, hw⟩)
    · exact fun wx hw => gw rfl (g_move _ _ rfl ⟨rfl, hw⟩)
    · exact fun wx hw => gw rfl (g_move _ _ rfl ⟨rfl, hw⟩)
    · exact fun wx hw => gw rfl (g_sl_h _ _ A U 24 rfl rfl (by omega) eU1.out ⟨rfl, hw⟩)
    · exact fun wx hw => gw rfl (g_move _ _ rfl ⟨rfl, hw⟩)
    · exact fun wx hw => gw rfl (g_move _ _ rfl ⟨rfl, hw⟩)
    · exact fun wx hw => gw rfl (g_sl_h _ _ B U 24 rfl rfl (by omega) eU2.out ⟨rfl, hw⟩)
    · exact fun wx hw => gw rfl (g_seql 9 _ _ (U) (U) true rfl rfl (decide_eq_true rfl) ⟨rfl, hw⟩)
    · exact fun wx hw => gw rfl (g_pickt _ _ _ _ rfl rfl ⟨rfl, hw⟩)
    · exact fun wx hw => gw rfl (g_move _ _ rfl ⟨rfl, hw⟩)
    · exact fun wx hw => gw rfl (g_move _ _ rfl ⟨rfl, hw⟩)
    · exact fun wx hw => gw rfl (g_move _ _ rfl ⟨rfl, hw⟩)
    · exact fun wx hw => gw rfl (g_iadd 3 _ _ .i64 _ _ 32 rfl rfl (by decide) ⟨rfl, hw⟩)
    · exact fun wx hw => gw rfl (g_sl_l _ _ A V 32 rfl rfl (by omega) eV1.out ⟨rfl, hw⟩)
    · exact fun wx hw => gw rfl (g_move _ _ rfl ⟨rfl, hw⟩)
    · exact fun wx hw => gw rfl (g_move _ _ rfl ⟨rfl, hw⟩)
    · exact fun wx hw => gw rfl (g_iadd 3 _ _ .i64 _ _ 32 rfl rfl (by decide) ⟨rfl, hw⟩)
    · exact fun wx hw => gw rfl (g_sl_l _ _ B V 32 rfl rfl (by omega) eV2.out ⟨rfl, hw⟩)
    · exact fun wx hw => gw rfl (g_seql 9 _ _ (V) (V) true rfl rfl (decide_eq_true rfl) ⟨rfl, hw⟩)
    · exact fun wx hw => gw rfl (g_pickt _ _ _ _ rfl rfl ⟨rfl, hw⟩)
    · exact fun wx hw => gw rfl (g_assign _ _ rfl ⟨rfl, hw⟩)
  · simp only [fullL, Act.put, List.setIfInBounds_toArray, List.set_cons_succ, List.set_cons_zero]
    intro w6 t_
    replace b_h := b_h.below t_ b_h.lt
    replace hB := hB.trans (t_.mono hB.size)
    clear t_
    go_wp2_with fail
    go_ret
    exact ⟨rfl, hB⟩
set_option maxRecDepth 10000 in
set_option maxHeartbeats 4000000 in
theorem walk2_2 (h : Hd) (wh x : Int) (w : World) (hi : InH h) (hwh : 0 ≤ wh ∧ wh < 256) (hx : InU64 x) (A B U V : ByteArray) (ek : Hid (wh.tmod 4 = 2)) (hA : Hid (pt h = (A, 0))) (hi2 : InH { h with rc := x }) (hB2 : Hid (pt { h with rc := x } = (B, 0))) (zA : A.size = 48) (zB : B.size = 48) (eU1 : Hid (A.extract 0 32 = U)) (eU2 : Hid (B.extract 0 32 = U)) (eV1 : Hid (A.extract 40 A.size = V)) (eV2 : Hid (B.extract 40 B.size = V)) : Calls Try.prog 10 #[.agg (hc h).toArray, .int .u8 wh, .int .u64 x] w fun e w' => e = .returned (.bool true) ∧ Below w.heap.size w w' := by
  go_enter Try.func10, Try.ntmps10
  (try simp only [List.append_eq, List.cons_append, List.nil_append])
  go_wp2_with (first
    | ((with_reducible refine at_boxD 3 26 ?_); refine L_box 26 _ (hc (h)) rfl ?_; intro w1 t_ b_h; have l_hB_h : w.heap.size ≤ w.heap.size := Nat.le_refl _; have hB : Below w.heap.size w w1 := t_.below (Below.refl _ _) (Nat.le_refl _); clear t_; (try simp only [Act.put, List.setIfInBounds_toArray, List.set_cons_zero, List.set_cons_succ]))
    | ((with_reducible refine at_callD 13 ?_); refine L_give (by rfl) (g_call 11 _ _ [] (kf11 _ _) rfl ((awake_any w1).mono ?_)); rintro e w2 ⟨rfl, t_⟩; refine ⟨_, rfl, ?_⟩; replace b_h := b_h.below t_ b_h.lt; replace hB := hB.trans (t_.mono hB.size); clear t_; (try simp only [Act.put, List.setIfInBounds_toArray, List.set_cons_zero, List.set_cons_succ]))
    | ((with_reducible refine at_loadD 16 26 ?_); refine L_give (by rfl) (g_load_all 26 _ (w.heap.size) (hc (h)) 26 _ rfl (b_h) Try.underlying26 rfl (szH hz) ?_); (try simp only [Act.put, List.setIfInBounds_toArray, List.set_cons_zero, List.set_cons_succ]))
    | ((with_reducible refine at_callD 17 ?_); refine L_give (by rfl) (g_call 12 _ _ [.agg (hc (h)).toArray] (kf12 _ _) rfl ((hput_any h A 0 w2 hi hA).mono ?_)); rintro e w3 ⟨rfl, t_⟩; refine ⟨_, rfl, ?_⟩; replace b_h := b_h.below t_ b_h.lt; replace hB := hB.trans (t_.mono hB.size); clear t_; (try simp only [Act.put, List.setIfInBounds_toArray, List.set_cons_zero, List.set_cons_succ]))
    | ((with_reducible refine at_binD 21 ?_); refine L_give (by rfl) (g_ine 28 _ _ .i64 _ _ false rfl rfl (by decide) ?_); (try simp only [Act.put, List.setIfInBounds_toArray, List.set_cons_zero, List.set_cons_succ]))
    | ((with_reducible refine at_binD 23 ?_); refine L_give (by rfl) (g_irem 5 _ _ .u8 _ _ 2 rfl rfl (by decide) ek.out ?_); (try simp only [Act.put, List.setIfInBounds_toArray, List.set_cons_zero, List.set_cons_succ]))
    | ((with_reducible refine at_cnv 24 ?_); refine L_give (by rfl) (g_cv_5_3 _ _ _ rfl (by decide) ?_); (try simp only [Act.put, List.setIfInBounds_toArray, List.set_cons_zero, List.set_cons_succ]))
    | ((with_reducible refine at_binD 29 ?_); refine L_give (by rfl) (g_ieq 3 _ _ .i64 _ _ false rfl rfl (by decide) ?_); (try simp only [Act.put, List.setIfInBounds_toArray, List.set_cons_zero, List.set_cons_succ]))
    | ((with_reducible refine at_binD 33 ?_); refine L_give (by rfl) (g_ieq 3 _ _ .i64 _ _ false rfl rfl (by decide) ?_); (try simp only [Act.put, List.setIfInBounds_toArray, List.set_cons_zero, List.set_cons_succ]))
    | ((with_reducible refine at_binD 37 ?_); refine L_give (by rfl) (g_ieq 3 _ _ .i64 _ _ true rfl rfl (by decide) ?_); (try simp only [Act.put, List.setIfInBounds_toArray, List.set_cons_zero, List.set_cons_succ]))
    | ((with_reducible refine at_storeX 39 24 ?_); refine L_give (by rfl) (g_stc24 _ _ (w.heap.size) 11 (.int .u64 h.rc) (.int .u64 x) (hc h) 26 rfl rfl ⟨_, _, rfl⟩ b_h rfl ?_); intro w4 t_ b2; clear b_h; replace b_h : Blk w4 (w.heap.size) (hc { h with rc := x }) 26 := b2; clear b2; replace hB := t_.below hB l_hB_h; clear t_)
    | ((with_reducible refine at_loadD 41 26 ?_); refine L_give (by rfl) (g_load_all 26 _ (w.heap.size) (hc { h with rc := x }) 26 _ rfl (b_h) Try.underlying26 rfl (szH hz) ?_); (try simp only [Act.put, List.setIfInBounds_toArray, List.set_cons_zero, List.set_cons_succ]))
    | ((with_reducible refine at_callD 42 ?_); refine L_give (by rfl) (g_call 12 _ _ [.agg (hc ({ h with rc := x })).toArray] (kf12 _ _) rfl ((hput_any { h with rc := x } B 0 w4 hi2 hB2).mono ?_)); rintro e w5 ⟨rfl, t_⟩; refine ⟨_, rfl, ?_⟩; replace b_h := b_h.below t_ b_h.lt; replace hB := hB.trans (t_.mono hB.size); clear t_; (try simp only [Act.put, List.setIfInBounds_toArray, List.set_cons_zero, List.set_cons_succ]))
    | ((with_reducible refine at_binD 46 ?_); refine L_give (by rfl) (g_imul 3 _ _ .i64 _ _ 16 rfl rfl (by decide) ?_); (try simp only [Act.put, List.setIfInBounds_toArray, List.set_cons_zero, List.set_cons_succ]))
    | ((with_reducible refine at_binD 47 ?_); refine L_give (by rfl) (g_iadd 3 _ _ .i64 _ _ 32 rfl rfl (by decide) ?_); (try simp only [Act.put, List.setIfInBounds_toArray, List.set_cons_zero, List.set_cons_succ]))
    | (refine stop_region 17 ?_; intro X hX))
  refine hX.out ?_
  clear hX X
  refine wp_region_fixed (by kernel_rfl) (by kernel_rfl) [.int .i64 (0), .bool true, .bool true, .string (A), .int .i64 (A.size), .bool true, .bool true, .bool true, .string (B), .int .i64 (B.size), .bool true, .bool true, .bool true, .string (A), .int .i64 (32), .string (U), .string (B), .int .i64 (32), .string (U), .bool true, .bool true, .bool true, .string (A), .int .i64 (32), .int .i64 (40), .string (V), .string (B), .int .i64 (32), .int .i64 (40), .string (V), .bool true, .bool true, .bool true] (by rfl) (fun w' => Below w5.heap.size w5 w') (Below.refl _ _).drew ?_ ?_
  · simp only [fullL, Act.put, List.setIfInBounds_toArray, List.set_cons_succ, List.set_cons_zero]
    refine ⟨?_, ?_, ?_, ?_, ?_, ?_, ?_, ?_, ?_, ?_, ?_, ?_, ?_, ?_, ?_, ?_, ?_, ?_, ?_, ?_, ?_, ?_, ?_, ?_, ?_, ?_, ?_, ?_, ?_, ?_, ?_, ?_, ?_, trivial⟩
    · exact fun wx hw => gw rfl (g_move _ _ rfl ⟨rfl, hw⟩)
    · exact fun wx hw => gw rfl (g_ieq 28 _ _ .i64 _ _ true rfl rfl (by decide) ⟨rfl, hw⟩)
    · exact fun wx hw => gw rfl (g_move _ _ rfl ⟨rfl, hw⟩)
    · exact fun wx hw => gw rfl (g_move _ _ rfl ⟨rfl, hw⟩)
    · exact fun wx hw => gw rfl (g_slen _ _ _ rfl rfl ⟨rfl, hw⟩)
    · exact fun wx hw => gw rfl (g_ieq 3 _ _ .i64 _ _ true rfl rfl (decide_eq_true (by omega)) ⟨rfl, hw⟩)
    · exact fun wx hw => gw rfl (g_pickt _ _ _ _ rfl rfl ⟨rfl, hw⟩)
    · exact fun wx hw => gw rfl (g_move _ _ rfl ⟨rfl, hw⟩)
    · exact fun wx hw => gw rfl (g_move _ _ rfl ⟨rfl, hw⟩)
    · exact fun wx hw => gw rfl (g_slen _ _ _ rfl rfl ⟨rfl, hw⟩)
    · exact fun wx hw => gw rfl (g_ieq 3 _ _ .i64 _ _ true rfl rfl (decide_eq_true (by omega)) ⟨rfl, hw⟩)
    · exact fun wx hw => gw rfl (g_pickt _ _ _ _ rfl rfl ⟨rfl, hw⟩)
    · exact fun wx hw => gw rfl (g_move _ _ rfl ⟨rfl, hw⟩)
    · exact fun wx hw => gw rfl (g_move _ _ rfl ⟨rfl, hw⟩)
    · exact fun wx hw => gw rfl (g_move _ _ rfl ⟨rfl, hw⟩)
    · exact fun wx hw => gw rfl (g_sl_h _ _ A U 32 rfl rfl (by omega) eU1.out ⟨rfl, hw⟩)
    · exact fun wx hw => gw rfl (g_move _ _ rfl ⟨rfl, hw⟩)
    · exact fun wx hw => gw rfl (g_move _ _ rfl ⟨rfl, hw⟩)
    · exact fun wx hw => gw rfl (g_sl_h _ _ B U 32 rfl rfl (by omega) eU2.out ⟨rfl, hw⟩)
    · exact fun wx hw => gw rfl (g_seql 9 _ _ (U) (U) true rfl rfl (decide_eq_true rfl) ⟨rfl, hw⟩)
    · exact fun wx hw => gw rfl (g_pickt _ _ _ _ rfl rfl ⟨rfl, hw⟩)
    · exact fun wx hw => gw rfl (g_move _ _ rfl ⟨rfl, hw⟩)
    · exact fun wx hw => gw rfl (g_move _ _ rfl ⟨rfl, hw⟩)
    · exact fun wx hw => gw rfl (g_move _ _ rfl ⟨rfl, hw⟩)
    · exact fun wx hw => gw rfl (g_iadd 3 _ _ .i64 _ _ 40 rfl rfl (by decide) ⟨rfl, hw⟩)
    · exact fun wx hw => gw rfl (g_sl_l _ _ A V 40 rfl rfl (by omega) eV1.out ⟨rfl, hw⟩)
    · exact fun wx hw => gw rfl (g_move _ _ rfl ⟨rfl, hw⟩)
    · exact fun wx hw => gw rfl (g_move _ _ rfl ⟨rfl, hw⟩)
    · exact fun wx hw => gw rfl (g_iadd 3 _ _ .i64 _ _ 40 rfl rfl (by decide) ⟨rfl, hw⟩)
    · exact fun wx hw => gw rfl (g_sl_l _ _ B V 40 rfl rfl (by omega) eV2.out ⟨rfl, hw⟩)
    · exact fun wx hw => gw rfl (g_seql 9 _ _ (V) (V) true rfl rfl (decide_eq_true rfl) ⟨rfl, hw⟩)
    · exact fun wx hw => gw rfl (g_pickt _ _ _ _ rfl rfl ⟨rfl, hw⟩)
    · exact fun wx hw => gw rfl (g_assign _ _ rfl ⟨rfl, hw⟩)
  · simp only [fullL, Act.put, List.setIfInBounds_toArray, List.set_cons_succ, List.set_cons_zero]
    intro w6 t_
    replace b_h := b_h.below t_ b_h.lt
    replace hB := hB.trans (t_.mono hB.size)
    clear t_
    go_wp2_with fail
    go_ret
    exact ⟨rfl, hB⟩
set_option maxRecDepth 10000 in
set_option maxHeartbeats 4000000 in
theorem walk2_3 (h : Hd) (wh x : Int) (w : World) (hi : InH h) (hwh : 0 ≤ wh ∧ wh < 256) (hx : InU64 x) (A B U V : ByteArray) (ek : Hid (wh.tmod 4 = 3)) (hA : Hid (pt h = (A, 0))) (hi2 : InH { h with tr := x }) (hB2 : Hid (pt { h with tr := x } = (B, 0))) (zA : A.size = 48) (zB : B.size = 48) (eU1 : Hid (A.extract 0 40 = U)) (eU2 : Hid (B.extract 0 40 = U)) (eV1 : Hid (A.extract 48 A.size = V)) (eV2 : Hid (B.extract 48 B.size = V)) : Calls Try.prog 10 #[.agg (hc h).toArray, .int .u8 wh, .int .u64 x] w fun e w' => e = .returned (.bool true) ∧ Below w.heap.size w w' := by
  go_enter Try.func10, Try.ntmps10
  (try simp only [List.append_eq, List.cons_append, List.nil_append])
  go_wp2_with (first
    | ((with_reducible refine at_boxD 3 26 ?_); refine L_box 26 _ (hc (h)) rfl ?_; intro w1 t_ b_h; have l_hB_h : w.heap.size ≤ w.heap.size := Nat.le_refl _; have hB : Below w.heap.size w w1 := t_.below (Below.refl _ _) (Nat.le_refl _); clear t_; (try simp only [Act.put, List.setIfInBounds_toArray, List.set_cons_zero, List.set_cons_succ]))
    | ((with_reducible refine at_callD 13 ?_); refine L_give (by rfl) (g_call 11 _ _ [] (kf11 _ _) rfl ((awake_any w1).mono ?_)); rintro e w2 ⟨rfl, t_⟩; refine ⟨_, rfl, ?_⟩; replace b_h := b_h.below t_ b_h.lt; replace hB := hB.trans (t_.mono hB.size); clear t_; (try simp only [Act.put, List.setIfInBounds_toArray, List.set_cons_zero, List.set_cons_succ]))
    | ((with_reducible refine at_loadD 16 26 ?_); refine L_give (by rfl) (g_load_all 26 _ (w.heap.size) (hc (h)) 26 _ rfl (b_h) Try.underlying26 rfl (szH hz) ?_); (try simp only [Act.put, List.setIfInBounds_toArray, List.set_cons_zero, List.set_cons_succ]))
    | ((with_reducible refine at_callD 17 ?_); refine L_give (by rfl) (g_call 12 _ _ [.agg (hc (h)).toArray] (kf12 _ _) rfl ((hput_any h A 0 w2 hi hA).mono ?_)); rintro e w3 ⟨rfl, t_⟩; refine ⟨_, rfl, ?_⟩; replace b_h := b_h.below t_ b_h.lt; replace hB := hB.trans (t_.mono hB.size); clear t_; (try simp only [Act.put, List.setIfInBounds_toArray, List.set_cons_zero, List.set_cons_succ]))
    | ((with_reducible refine at_binD 21 ?_); refine L_give (by rfl) (g_ine 28 _ _ .i64 _ _ false rfl rfl (by decide) ?_); (try simp only [Act.put, List.setIfInBounds_toArray, List.set_cons_zero, List.set_cons_succ]))
    | ((with_reducible refine at_binD 23 ?_); refine L_give (by rfl) (g_irem 5 _ _ .u8 _ _ 3 rfl rfl (by decide) ek.out ?_); (try simp only [Act.put, List.setIfInBounds_toArray, List.set_cons_zero, List.set_cons_succ]))
    | ((with_reducible refine at_cnv 24 ?_); refine L_give (by rfl) (g_cv_5_3 _ _ _ rfl (by decide) ?_); (try simp only [Act.put, List.setIfInBounds_toArray, List.set_cons_zero, List.set_cons_succ]))
    | ((with_reducible refine at_binD 29 ?_); refine L_give (by rfl) (g_ieq 3 _ _ .i64 _ _ false rfl rfl (by decide) ?_); (try simp only [Act.put, List.setIfInBounds_toArray, List.set_cons_zero, List.set_cons_succ]))
    | ((with_reducible refine at_binD 33 ?_); refine L_give (by rfl) (g_ieq 3 _ _ .i64 _ _ false rfl rfl (by decide) ?_); (try simp only [Act.put, List.setIfInBounds_toArray, List.set_cons_zero, List.set_cons_succ]))
    | ((with_reducible refine at_binD 37 ?_); refine L_give (by rfl) (g_ieq 3 _ _ .i64 _ _ false rfl rfl (by decide) ?_); (try simp only [Act.put, List.setIfInBounds_toArray, List.set_cons_zero, List.set_cons_succ]))
    | ((with_reducible refine at_storeX 27 24 ?_); refine L_give (by rfl) (g_stc24 _ _ (w.heap.size) 12 (.int .u64 h.tr) (.int .u64 x) (hc h) 26 rfl rfl ⟨_, _, rfl⟩ b_h rfl ?_); intro w4 t_ b2; clear b_h; replace b_h : Blk w4 (w.heap.size) (hc { h with tr := x }) 26 := b2; clear b2; replace hB := t_.below hB l_hB_h; clear t_)
    | ((with_reducible refine at_loadD 41 26 ?_); refine L_give (by rfl) (g_load_all 26 _ (w.heap.size) (hc { h with tr := x }) 26 _ rfl (b_h) Try.underlying26 rfl (szH hz) ?_); (try simp only [Act.put, List.setIfInBounds_toArray, List.set_cons_zero, List.set_cons_succ]))
    | ((with_reducible refine at_callD 42 ?_); refine L_give (by rfl) (g_call 12 _ _ [.agg (hc ({ h with tr := x })).toArray] (kf12 _ _) rfl ((hput_any { h with tr := x } B 0 w4 hi2 hB2).mono ?_)); rintro e w5 ⟨rfl, t_⟩; refine ⟨_, rfl, ?_⟩; replace b_h := b_h.below t_ b_h.lt; replace hB := hB.trans (t_.mono hB.size); clear t_; (try simp only [Act.put, List.setIfInBounds_toArray, List.set_cons_zero, List.set_cons_succ]))
    | ((with_reducible refine at_binD 46 ?_); refine L_give (by rfl) (g_imul 3 _ _ .i64 _ _ 24 rfl rfl (by decide) ?_); (try simp only [Act.put, List.setIfInBounds_toArray, List.set_cons_zero, List.set_cons_succ]))
    | ((with_reducible refine at_binD 47 ?_); refine L_give (by rfl) (g_iadd 3 _ _ .i64 _ _ 40 rfl rfl (by decide) ?_); (try simp only [Act.put, List.setIfInBounds_toArray, List.set_cons_zero, List.set_cons_succ]))
    | (refine stop_region 17 ?_; intro X hX))
  refine hX.out ?_
  clear hX X
  refine wp_region_fixed (by kernel_rfl) (by kernel_rfl) [.int .i64 (0), .bool true, .bool true, .string (A), .int .i64 (A.size), .bool true, .bool true, .bool true, .string (B), .int .i64 (B.size), .bool true, .bool true, .bool true, .string (A), .int .i64 (40), .string (U), .string (B), .int .i64 (40), .string (U), .bool true, .bool true, .bool true, .string (A), .int .i64 (40), .int .i64 (48), .string (V), .string (B), .int .i64 (40), .int .i64 (48), .string (V), .bool true, .bool true, .bool true] (by rfl) (fun w' => Below w5.heap.size w5 w') (Below.refl _ _).drew ?_ ?_
  · simp only [fullL, Act.put, List.setIfInBounds_toArray, List.set_cons_succ, List.set_cons_zero]
    refine ⟨?_, ?_, ?_, ?_, ?_, ?_, ?_, ?_, ?_, ?_, ?_, ?_, ?_, ?_, ?_, ?_, ?_, ?_, ?_, ?_, ?_, ?_, ?_, ?_, ?_, ?_, ?_, ?_, ?_, ?_, ?_, ?_, ?_, trivial⟩
    · exact fun wx hw => gw rfl (g_move _ _ rfl ⟨rfl, hw⟩)
    · exact fun wx hw => gw rfl (g_ieq 28 _ _ .i64 _ _ true rfl rfl (by decide) ⟨rfl, hw⟩)
    · exact fun wx hw => gw rfl (g_move _ _ rfl ⟨rfl, hw⟩)
    · exact fun wx hw => gw rfl (g_move _ _ rfl ⟨rfl, hw⟩)
    · exact fun wx hw => gw rfl (g_slen _ _ _ rfl rfl ⟨rfl, hw⟩)
    · exact fun wx hw => gw rfl (g_ieq 3 _ _ .i64 _ _ true rfl rfl (decide_eq_true (by omega)) ⟨rfl, hw⟩)
    · exact fun wx hw => gw rfl (g_pickt _ _ _ _ rfl rfl ⟨rfl, hw⟩)
    · exact fun wx hw => gw rfl (g_move _ _ rfl ⟨rfl, hw⟩)
    · exact fun wx hw => gw rfl (g_move _ _ rfl ⟨rfl, hw⟩)
    · exact fun wx hw => gw rfl (g_slen _ _ _ rfl rfl ⟨rfl, hw⟩)
    · exact fun wx hw => gw rfl (g_ieq 3 _ _ .i64 _ _ true rfl rfl (decide_eq_true (by omega)) ⟨rfl, hw⟩)
    · exact fun wx hw => gw rfl (g_pickt _ _ _ _ rfl rfl ⟨rfl, hw⟩)
    · exact fun wx hw => gw rfl (g_move _ _ rfl ⟨rfl, hw⟩)
    · exact fun wx hw => gw rfl (g_move _ _ rfl ⟨rfl, hw⟩)
    · exact fun wx hw => gw rfl (g_move _ _ rfl ⟨rfl, hw⟩)
    · exact fun wx hw => gw rfl (g_sl_h _ _ A U 40 rfl rfl (by omega) eU1.out ⟨rfl, hw⟩)
    · exact fun wx hw => gw rfl (g_move _ _ rfl ⟨rfl, hw⟩)
    · exact fun wx hw => gw rfl (g_move _ _ rfl ⟨rfl, hw⟩)
    · exact fun wx hw => gw rfl (g_sl_h _ _ B U 40 rfl rfl (by omega) eU2.out ⟨rfl, hw⟩)
    · exact fun wx hw => gw rfl (g_seql 9 _ _ (U) (U) true rfl rfl (decide_eq_true rfl) ⟨rfl, hw⟩)
    · exact fun wx hw => gw rfl (g_pickt _ _ _ _ rfl rfl ⟨rfl, hw⟩)
    · exact fun wx hw => gw rfl (g_move _ _ rfl ⟨rfl, hw⟩)
    · exact fun wx hw => gw rfl (g_move _ _ rfl ⟨rfl, hw⟩)
    · exact fun wx hw => gw rfl (g_move _ _ rfl ⟨rfl, hw⟩)
    · exact fun wx hw => gw rfl (g_iadd 3 _ _ .i64 _ _ 48 rfl rfl (by decide) ⟨rfl, hw⟩)
    · exact fun wx hw => gw rfl (g_sl_l _ _ A V 48 rfl rfl (by omega) eV1.out ⟨rfl, hw⟩)
    · exact fun wx hw => gw rfl (g_move _ _ rfl ⟨rfl, hw⟩)
    · exact fun wx hw => gw rfl (g_move _ _ rfl ⟨rfl, hw⟩)
    · exact fun wx hw => gw rfl (g_iadd 3 _ _ .i64 _ _ 48 rfl rfl (by decide) ⟨rfl, hw⟩)
    · exact fun wx hw => gw rfl (g_sl_l _ _ B V 48 rfl rfl (by omega) eV2.out ⟨rfl, hw⟩)
    · exact fun wx hw => gw rfl (g_seql 9 _ _ (V) (V) true rfl rfl (decide_eq_true rfl) ⟨rfl, hw⟩)
    · exact fun wx hw => gw rfl (g_pickt _ _ _ _ rfl rfl ⟨rfl, hw⟩)
    · exact fun wx hw => gw rfl (g_assign _ _ rfl ⟨rfl, hw⟩)
  · simp only [fullL, Act.put, List.setIfInBounds_toArray, List.set_cons_succ, List.set_cons_zero]
    intro w6 t_
    replace b_h := b_h.below t_ b_h.lt
    replace hB := hB.trans (t_.mono hB.size)
    clear t_
    go_wp2_with fail
    go_ret
    exact ⟨rfl, hB⟩
/-- Two texts that begin and end alike. -/
theorem parts_same (A B P X Y R : List UInt8) (n : Nat) (hA : A = P ++ (X ++ R)) (hB : B = P ++ (Y ++ R)) (hP : P.length = n) (hX : X.length = 8) (hY : Y.length = 8) :
    (⟨A.toArray⟩ : ByteArray).extract 0 n = (⟨B.toArray⟩ : ByteArray).extract 0 n ∧ (⟨A.toArray⟩ : ByteArray).extract (n + 8) (⟨A.toArray⟩ : ByteArray).size = (⟨B.toArray⟩ : ByteArray).extract (n + 8) (⟨B.toArray⟩ : ByteArray).size := by
  have z : ∀ l : List UInt8, (⟨l.toArray⟩ : ByteArray).data.toList = l := fun l => by simp
  constructor
  · apply ByteArray.ext; apply Array.toList_inj.1
    rw [ext_list, ext_list, z, z, hA, hB, List.drop_zero, List.drop_zero, Nat.sub_zero, List.take_left' hP, List.take_left' hP]
  · apply ByteArray.ext; apply Array.toList_inj.1
    have e : A.length = B.length := by rw [hA, hB]; simp [hX, hY]
    have d1 : A.drop (n + 8) = R := by rw [hA, ← List.append_assoc, List.drop_left' (by simp [hP, hX])]
    have d2 : B.drop (n + 8) = R := by rw [hB, ← List.append_assoc, List.drop_left' (by simp [hP, hY])]
    rw [ext_list, ext_list, z, z, size_toArray, size_toArray, e, d1, d2]
theorem walk (h : Hd) (wh x : Int) (w : World) (hi : InH h) (hwh : 0 ≤ wh ∧ wh < 256) (hx : InU64 x) : Calls Try.prog 10 #[.agg (hc h).toArray, .int .u8 wh, .int .u64 x] w fun e w' => e = .returned (.bool true) ∧ Below w.heap.size w w' := by
  cases hm : may h with
  | false => exact walk1 h wh x w hi hwh hx (pt_bad h hm)
  | true =>
    have hk : wh.tmod 4 = 0 ∨ wh.tmod 4 = 1 ∨ wh.tmod 4 = 2 ∨ wh.tmod 4 = 3 := by rw [Int.tmod_eq_emod_of_nonneg hwh.1]; omega
    have z : ∀ g : Hd, (⟨(hb g).toArray⟩ : ByteArray).size = 48 := fun g => by rw [size_toArray, hb_length]
    rcases hk with hk | hk | hk | hk
    · have m2 : may { h with re := x } = true := hm
      have q := parts_same (hb h) (hb { h with re := x }) ([ib (64 * h.le + 8 * h.ve + h.mo), ib h.st, ib h.po, ib h.pr] ++ (putL h.de.toNat 4 ++ (putL h.di.toNat 4 ++ putL h.ident.toNat 4))) (putL h.re.toNat 8) (putL x.toNat 8) (putL h.og.toNat 8 ++ (putL h.rc.toNat 8 ++ (putL h.tr.toNat 8))) 16 (by simp [hb]) (by simp [hb]) (by simp [putL_length]) (putL_length _ _) (putL_length _ _)
      exact walk2_0 h wh x w hi hwh hx _ _ _ _ hk (pt_ok h hm) { hi with re := hx } (pt_ok _ m2) (z _) (z _) rfl q.1.symm rfl q.2.symm
    · have m2 : may { h with og := x } = true := hm
      have q := parts_same (hb h) (hb { h with og := x }) (([ib (64 * h.le + 8 * h.ve + h.mo), ib h.st, ib h.po, ib h.pr] ++ (putL h.de.toNat 4 ++ (putL h.di.toNat 4 ++ putL h.ident.toNat 4))) ++ putL h.re.toNat 8) (putL h.og.toNat 8) (putL x.toNat 8) (putL h.rc.toNat 8 ++ (putL h.tr.toNat 8)) 24 (by simp [hb]) (by simp [hb]) (by simp [putL_length]) (putL_length _ _) (putL_length _ _)
      exact walk2_1 h wh x w hi hwh hx _ _ _ _ hk (pt_ok h hm) { hi with og := hx } (pt_ok _ m2) (z _) (z _) rfl q.1.symm rfl q.2.symm
    · have m2 : may { h with rc := x } = true := hm
      have q := parts_same (hb h) (hb { h with rc := x }) ((([ib (64 * h.le + 8 * h.ve + h.mo), ib h.st, ib h.po, ib h.pr] ++ (putL h.de.toNat 4 ++ (putL h.di.toNat 4 ++ putL h.ident.toNat 4))) ++ putL h.re.toNat 8) ++ putL h.og.toNat 8) (putL h.rc.toNat 8) (putL x.toNat 8) (putL h.tr.toNat 8) 32 (by simp [hb]) (by simp [hb]) (by simp [putL_length]) (putL_length _ _) (putL_length _ _)
      exact walk2_2 h wh x w hi hwh hx _ _ _ _ hk (pt_ok h hm) { hi with rc := hx } (pt_ok _ m2) (z _) (z _) rfl q.1.symm rfl q.2.symm
    · have m2 : may { h with tr := x } = true := hm
      have q := parts_same (hb h) (hb { h with tr := x }) (((([ib (64 * h.le + 8 * h.ve + h.mo), ib h.st, ib h.po, ib h.pr] ++ (putL h.de.toNat 4 ++ (putL h.di.toNat 4 ++ putL h.ident.toNat 4))) ++ putL h.re.toNat 8) ++ putL h.og.toNat 8) ++ putL h.rc.toNat 8) (putL h.tr.toNat 8) (putL x.toNat 8) ([] : List UInt8) 40 (by simp [hb]) (by simp [hb]) (by simp [putL_length]) (putL_length _ _) (putL_length _ _)
      exact walk2_3 h wh x w hi hwh hx _ _ _ _ hk (pt_ok h hm) { hi with tr := hx } (pt_ok _ m2) (z _) (z _) rfl q.1.symm rfl q.2.symm
end Go.Proofs.Yteieacamokoejaa.headStamps
