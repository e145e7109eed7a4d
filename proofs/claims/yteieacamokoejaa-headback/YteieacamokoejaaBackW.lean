/- HeadBack: the walk. -/
import Derived.Test.YteieacamokoejaaLawA
namespace Go.Proofs.Yteieacamokoejaa.headBack
open Go Go.RowKit
set_option linter.unusedVariables false
set_option linter.unusedSimpArgs false

set_option maxRecDepth 10000 in
set_option maxHeartbeats 4000000 in
theorem walk1 (h : Hd) (s : ByteArray) (w : World) (hi : InH h) (hl : (2048 : Int) < (s.size : Int)) : Calls Try.prog 5 #[.agg (hc h).toArray, .string s] w fun e w' => e = .returned (.bool true) ∧ Below w.heap.size w w' := by
  go_enter Try.func5, Try.ntmps5
  go_wp2_with (first
    | ((with_reducible refine at_boxD 2 26 ?_); refine L_box 26 _ (hc (h)) rfl ?_; intro w1 t_ b_h; have l_hB_h : w.heap.size ≤ w.heap.size := Nat.le_refl _; have hB : Below w.heap.size w w1 := t_.below (Below.refl _ _) (Nat.le_refl _); clear t_; (try simp only [Act.put, List.setIfInBounds_toArray, List.set_cons_zero, List.set_cons_succ]))
    | ((with_reducible refine at_callD 13 ?_); refine L_give (by rfl) (g_call 11 _ _ [] (kf11 _ _) rfl ((awake_any w1).mono ?_)); rintro e w2 ⟨rfl, t_⟩; refine ⟨_, rfl, ?_⟩; replace b_h := b_h.below t_ b_h.lt; replace hB := hB.trans (t_.mono hB.size); clear t_; (try simp only [Act.put, List.setIfInBounds_toArray, List.set_cons_zero, List.set_cons_succ]))
    | ((with_reducible refine at_callD 16 ?_); refine L_give (by rfl) (g_slen _ _ _ rfl rfl ?_); (try simp only [Act.put, List.setIfInBounds_toArray, List.set_cons_zero, List.set_cons_succ]))
    | ((with_reducible refine at_binD 17 ?_); refine L_give (by rfl) (g_igtr 3 _ _ .i64 _ _ true rfl rfl (decide_eq_true hl) ?_); (try simp only [Act.put, List.setIfInBounds_toArray, List.set_cons_zero, List.set_cons_succ])))
  go_ret
  exact ⟨rfl, hB⟩
set_option maxRecDepth 10000 in
set_option maxHeartbeats 4000000 in
theorem walk2_00 (h : Hd) (s : ByteArray) (w : World) (hi : InH h) (hl : ¬ (2048 : Int) < (s.size : Int)) (T : ByteArray) (zT : ((T.size : Nat) : Int) = 48) (hT : Hid (pt h = (T, 0))) (hT2 : Hid (tk T = (h, 0))) (hm : Hid (may h = true)) (G : Hd) (hiG : InH G) (hG : Hid (tk s = (G, 0))) (hP : Hid (pt G = (s, 0))) : Calls Try.prog 5 #[.agg (hc h).toArray, .string s] w fun e w' => e = .returned (.bool true) ∧ Below w.heap.size w w' := by
  go_enter Try.func5, Try.ntmps5
  go_wp2_with (first
    | ((with_reducible refine at_boxD 2 26 ?_); refine L_box 26 _ (hc (h)) rfl ?_; intro w1 t_ b_h; have l_hB_h : w.heap.size ≤ w.heap.size := Nat.le_refl _; have hB : Below w.heap.size w w1 := t_.below (Below.refl _ _) (Nat.le_refl _); clear t_; (try simp only [Act.put, List.setIfInBounds_toArray, List.set_cons_zero, List.set_cons_succ]))
    | ((with_reducible refine at_callD 13 ?_); refine L_give (by rfl) (g_call 11 _ _ [] (kf11 _ _) rfl ((awake_any w1).mono ?_)); rintro e w2 ⟨rfl, t_⟩; refine ⟨_, rfl, ?_⟩; replace b_h := b_h.below t_ b_h.lt; replace hB := hB.trans (t_.mono hB.size); clear t_; (try simp only [Act.put, List.setIfInBounds_toArray, List.set_cons_zero, List.set_cons_succ]))
    | ((with_reducible refine at_callD 16 ?_); refine L_give (by rfl) (g_slen _ _ _ rfl rfl ?_); (try simp only [Act.put, List.setIfInBounds_toArray, List.set_cons_zero, List.set_cons_succ]))
    | ((with_reducible refine at_binD 17 ?_); refine L_give (by rfl) (g_igtr 3 _ _ .i64 _ _ false rfl rfl (decide_eq_false hl) ?_); (try simp only [Act.put, List.setIfInBounds_toArray, List.set_cons_zero, List.set_cons_succ]))
    | ((with_reducible refine at_loadD 19 26 ?_); refine L_give (by rfl) (g_load_all 26 _ (w.heap.size) (hc (h)) 26 _ rfl (b_h) Try.underlying26 rfl (szH hz) ?_); (try simp only [Act.put, List.setIfInBounds_toArray, List.set_cons_zero, List.set_cons_succ]))
    | ((with_reducible refine at_callD 20 ?_); refine L_give (by rfl) (g_call 12 _ _ [.agg (hc (h)).toArray] (kf12 _ _) rfl ((hput_any h T 0 w2 hi hT).mono ?_)); rintro e w3 ⟨rfl, t_⟩; refine ⟨_, rfl, ?_⟩; replace b_h := b_h.below t_ b_h.lt; replace hB := hB.trans (t_.mono hB.size); clear t_; (try simp only [Act.put, List.setIfInBounds_toArray, List.set_cons_zero, List.set_cons_succ]))
    | ((with_reducible refine at_binD 24 ?_); refine L_give (by rfl) (g_ieq 28 _ _ .i64 _ _ true rfl rfl (by decide) ?_); (try simp only [Act.put, List.setIfInBounds_toArray, List.set_cons_zero, List.set_cons_succ]))
    | ((with_reducible refine at_callD 27 ?_); refine L_give (by rfl) (g_call 14 _ _ [.string (T)] (kf14 _ _) rfl ((htake_any T h 0 w3 hT2).mono ?_)); rintro e w4 ⟨rfl, t_⟩; refine ⟨_, rfl, ?_⟩; replace b_h := b_h.below t_ b_h.lt; replace hB := hB.trans (t_.mono hB.size); clear t_; (try simp only [Act.put, List.setIfInBounds_toArray, List.set_cons_zero, List.set_cons_succ]))
    | ((with_reducible refine at_allocD 7 26 ?_); refine L_alloc 26 (hc (hz)) zeroH ?_; intro w5 t_ b_g; have o_h_g := b_h.lt; have l_hB_g : _ ≤ w4.heap.size := hB.size; replace b_h := t_.blk b_h (Nat.ne_of_lt b_h.lt); replace hB := t_.below hB l_hB_g; clear t_; (try simp only [Act.put, List.setIfInBounds_toArray, List.set_cons_zero, List.set_cons_succ]))
    | ((with_reducible refine at_storeX 7 26 ?_); refine L_store_all 26 _ _ (w4.heap.size) (hc (h)) _ 26 rfl rfl b_g (szH hz) rfl (one_hc _) ?_; clear b_g; intro w6 t_ b_g; replace b_h := t_.blk b_h (Nat.ne_of_lt o_h_g); replace hB := t_.below hB l_hB_g; clear t_)
    | ((with_reducible refine at_loadD 30 26 ?_); refine L_give (by rfl) (g_load_all 26 _ (w4.heap.size) (hc (h)) 26 _ rfl (b_g) Try.underlying26 rfl (szH hz) ?_); (try simp only [Act.put, List.setIfInBounds_toArray, List.set_cons_zero, List.set_cons_succ]))
    | ((with_reducible refine at_loadD 31 26 ?_); refine L_give (by rfl) (g_load_all 26 _ (w.heap.size) (hc (h)) 26 _ rfl (b_h) Try.underlying26 rfl (szH hz) ?_); (try simp only [Act.put, List.setIfInBounds_toArray, List.set_cons_zero, List.set_cons_succ]))
    | ((with_reducible refine at_binD 32 ?_); refine L_give (by rfl) (g_neqH _ _ (h) rfl rfl ?_); (try simp only [Act.put, List.setIfInBounds_toArray, List.set_cons_zero, List.set_cons_succ]))
    | ((with_reducible refine at_binD 35 ?_); refine L_give (by rfl) (g_ine 28 _ _ .i64 _ _ false rfl rfl (by decide) ?_); (try simp only [Act.put, List.setIfInBounds_toArray, List.set_cons_zero, List.set_cons_succ]))
    | ((with_reducible refine at_callD 39 ?_); refine L_give (by rfl) (g_slen _ _ _ rfl rfl ?_); (try simp only [Act.put, List.setIfInBounds_toArray, List.set_cons_zero, List.set_cons_succ]))
    | ((with_reducible refine at_binD 40 ?_); refine L_give (by rfl) (g_ine 3 _ _ .i64 _ _ false rfl rfl (decide_eq_false (fun h => h zT)) ?_); (try simp only [Act.put, List.setIfInBounds_toArray, List.set_cons_zero, List.set_cons_succ]))
    | ((with_reducible refine at_loadD 43 26 ?_); refine L_give (by rfl) (g_load_all 26 _ (w.heap.size) (hc (h)) 26 _ rfl (b_h) Try.underlying26 rfl (szH hz) ?_); (try simp only [Act.put, List.setIfInBounds_toArray, List.set_cons_zero, List.set_cons_succ]))
    | ((with_reducible refine at_callD 44 ?_); refine L_give (by rfl) (g_call 16 _ _ [.agg (hc (h)).toArray] (kf16 _ _) rfl ((may_any h true w6 hm).mono ?_)); rintro e w7 ⟨rfl, t_⟩; refine ⟨_, rfl, ?_⟩; replace b_h := b_h.below t_ b_h.lt; replace b_g := b_g.below t_ b_g.lt; replace hB := hB.trans (t_.mono hB.size); clear t_; (try simp only [Act.put, List.setIfInBounds_toArray, List.set_cons_zero, List.set_cons_succ]))
    | ((with_reducible refine at_callD 55 ?_); refine L_give (by rfl) (g_call 14 _ _ [.string (s)] (kf14 _ _) rfl ((htake_any s G 0 w7 hG).mono ?_)); rintro e w8 ⟨rfl, t_⟩; refine ⟨_, rfl, ?_⟩; replace b_h := b_h.below t_ b_h.lt; replace b_g := b_g.below t_ b_g.lt; replace hB := hB.trans (t_.mono hB.size); clear t_; (try simp only [Act.put, List.setIfInBounds_toArray, List.set_cons_zero, List.set_cons_succ]))
    | ((with_reducible refine at_allocD 9 26 ?_); refine L_alloc 26 (hc (hz)) zeroH ?_; intro w9 t_ b_k; have o_h_k := b_h.lt; have o_g_k := b_g.lt; have l_hB_k : _ ≤ w8.heap.size := hB.size; replace b_h := t_.blk b_h (Nat.ne_of_lt b_h.lt); replace b_g := t_.blk b_g (Nat.ne_of_lt b_g.lt); replace hB := t_.below hB l_hB_k; clear t_; (try simp only [Act.put, List.setIfInBounds_toArray, List.set_cons_zero, List.set_cons_succ]))
    | ((with_reducible refine at_storeX 9 26 ?_); refine L_store_all 26 _ _ (w8.heap.size) (hc (G)) _ 26 rfl rfl b_k (szH hz) rfl (one_hc _) ?_; clear b_k; intro w10 t_ b_k; replace b_h := t_.blk b_h (Nat.ne_of_lt o_h_k); replace b_g := t_.blk b_g (Nat.ne_of_lt o_g_k); replace hB := t_.below hB l_hB_k; clear t_)
    | ((with_reducible refine at_binD 59 ?_); refine L_give (by rfl) (g_ine 28 _ _ .i64 _ _ false rfl rfl (by decide) ?_); (try simp only [Act.put, List.setIfInBounds_toArray, List.set_cons_zero, List.set_cons_succ]))
    | ((with_reducible refine at_loadD 64 26 ?_); refine L_give (by rfl) (g_load_all 26 _ (w8.heap.size) (hc (G)) 26 _ rfl (b_k) Try.underlying26 rfl (szH hz) ?_); (try simp only [Act.put, List.setIfInBounds_toArray, List.set_cons_zero, List.set_cons_succ]))
    | ((with_reducible refine at_callD 65 ?_); refine L_give (by rfl) (g_call 12 _ _ [.agg (hc (G)).toArray] (kf12 _ _) rfl ((hput_any G s 0 w10 hiG hP).mono ?_)); rintro e w11 ⟨rfl, t_⟩; refine ⟨_, rfl, ?_⟩; replace b_h := b_h.below t_ b_h.lt; replace b_g := b_g.below t_ b_g.lt; replace b_k := b_k.below t_ b_k.lt; replace hB := hB.trans (t_.mono hB.size); clear t_; (try simp only [Act.put, List.setIfInBounds_toArray, List.set_cons_zero, List.set_cons_succ]))
    | ((with_reducible refine at_binD 69 ?_); refine L_give (by rfl) (g_ieq 28 _ _ .i64 _ _ true rfl rfl (by decide) ?_); (try simp only [Act.put, List.setIfInBounds_toArray, List.set_cons_zero, List.set_cons_succ]))
    | ((with_reducible refine at_binD 73 ?_); refine L_give (by rfl) (g_seql 9 _ _ (s) (s) true rfl rfl (decide_eq_true rfl) ?_); (try simp only [Act.put, List.setIfInBounds_toArray, List.set_cons_zero, List.set_cons_succ])))
  go_ret
  exact ⟨rfl, hB⟩
set_option maxRecDepth 10000 in
set_option maxHeartbeats 4000000 in
theorem walk2_01 (h : Hd) (s : ByteArray) (w : World) (hi : InH h) (hl : ¬ (2048 : Int) < (s.size : Int)) (T : ByteArray) (zT : ((T.size : Nat) : Int) = 48) (hT : Hid (pt h = (T, 0))) (hT2 : Hid (tk T = (h, 0))) (hm : Hid (may h = true)) (F : Int) (hF : F ≠ 0) (hG : Hid (tk s = (hz, F))) : Calls Try.prog 5 #[.agg (hc h).toArray, .string s] w fun e w' => e = .returned (.bool true) ∧ Below w.heap.size w w' := by
  go_enter Try.func5, Try.ntmps5
  go_wp2_with (first
    | ((with_reducible refine at_boxD 2 26 ?_); refine L_box 26 _ (hc (h)) rfl ?_; intro w1 t_ b_h; have l_hB_h : w.heap.size ≤ w.heap.size := Nat.le_refl _; have hB : Below w.heap.size w w1 := t_.below (Below.refl _ _) (Nat.le_refl _); clear t_; (try simp only [Act.put, List.setIfInBounds_toArray, List.set_cons_zero, List.set_cons_succ]))
    | ((with_reducible refine at_callD 13 ?_); refine L_give (by rfl) (g_call 11 _ _ [] (kf11 _ _) rfl ((awake_any w1).mono ?_)); rintro e w2 ⟨rfl, t_⟩; refine ⟨_, rfl, ?_⟩; replace b_h := b_h.below t_ b_h.lt; replace hB := hB.trans (t_.mono hB.size); clear t_; (try simp only [Act.put, List.setIfInBounds_toArray, List.set_cons_zero, List.set_cons_succ]))
    | ((with_reducible refine at_callD 16 ?_); refine L_give (by rfl) (g_slen _ _ _ rfl rfl ?_); (try simp only [Act.put, List.setIfInBounds_toArray, List.set_cons_zero, List.set_cons_succ]))
    | ((with_reducible refine at_binD 17 ?_); refine L_give (by rfl) (g_igtr 3 _ _ .i64 _ _ false rfl rfl (decide_eq_false hl) ?_); (try simp only [Act.put, List.setIfInBounds_toArray, List.set_cons_zero, List.set_cons_succ]))
    | ((with_reducible refine at_loadD 19 26 ?_); refine L_give (by rfl) (g_load_all 26 _ (w.heap.size) (hc (h)) 26 _ rfl (b_h) Try.underlying26 rfl (szH hz) ?_); (try simp only [Act.put, List.setIfInBounds_toArray, List.set_cons_zero, List.set_cons_succ]))
    | ((with_reducible refine at_callD 20 ?_); refine L_give (by rfl) (g_call 12 _ _ [.agg (hc (h)).toArray] (kf12 _ _) rfl ((hput_any h T 0 w2 hi hT).mono ?_)); rintro e w3 ⟨rfl, t_⟩; refine ⟨_, rfl, ?_⟩; replace b_h := b_h.below t_ b_h.lt; replace hB := hB.trans (t_.mono hB.size); clear t_; (try simp only [Act.put, List.setIfInBounds_toArray, List.set_cons_zero, List.set_cons_succ]))
    | ((with_reducible refine at_binD 24 ?_); refine L_give (by rfl) (g_ieq 28 _ _ .i64 _ _ true rfl rfl (by decide) ?_); (try simp only [Act.put, List.setIfInBounds_toArray, List.set_cons_zero, List.set_cons_succ]))
    | ((with_reducible refine at_callD 27 ?_); refine L_give (by rfl) (g_call 14 _ _ [.string (T)] (kf14 _ _) rfl ((htake_any T h 0 w3 hT2).mono ?_)); rintro e w4 ⟨rfl, t_⟩; refine ⟨_, rfl, ?_⟩; replace b_h := b_h.below t_ b_h.lt; replace hB := hB.trans (t_.mono hB.size); clear t_; (try simp only [Act.put, List.setIfInBounds_toArray, List.set_cons_zero, List.set_cons_succ]))
    | ((with_reducible refine at_allocD 7 26 ?_); refine L_alloc 26 (hc (hz)) zeroH ?_; intro w5 t_ b_g; have o_h_g := b_h.lt; have l_hB_g : _ ≤ w4.heap.size := hB.size; replace b_h := t_.blk b_h (Nat.ne_of_lt b_h.lt); replace hB := t_.below hB l_hB_g; clear t_; (try simp only [Act.put, List.setIfInBounds_toArray, List.set_cons_zero, List.set_cons_succ]))
    | ((with_reducible refine at_storeX 7 26 ?_); refine L_store_all 26 _ _ (w4.heap.size) (hc (h)) _ 26 rfl rfl b_g (szH hz) rfl (one_hc _) ?_; clear b_g; intro w6 t_ b_g; replace b_h := t_.blk b_h (Nat.ne_of_lt o_h_g); replace hB := t_.below hB l_hB_g; clear t_)
    | ((with_reducible refine at_loadD 30 26 ?_); refine L_give (by rfl) (g_load_all 26 _ (w4.heap.size) (hc (h)) 26 _ rfl (b_g) Try.underlying26 rfl (szH hz) ?_); (try simp only [Act.put, List.setIfInBounds_toArray, List.set_cons_zero, List.set_cons_succ]))
    | ((with_reducible refine at_loadD 31 26 ?_); refine L_give (by rfl) (g_load_all 26 _ (w.heap.size) (hc (h)) 26 _ rfl (b_h) Try.underlying26 rfl (szH hz) ?_); (try simp only [Act.put, List.setIfInBounds_toArray, List.set_cons_zero, List.set_cons_succ]))
    | ((with_reducible refine at_binD 32 ?_); refine L_give (by rfl) (g_neqH _ _ (h) rfl rfl ?_); (try simp only [Act.put, List.setIfInBounds_toArray, List.set_cons_zero, List.set_cons_succ]))
    | ((with_reducible refine at_binD 35 ?_); refine L_give (by rfl) (g_ine 28 _ _ .i64 _ _ false rfl rfl (by decide) ?_); (try simp only [Act.put, List.setIfInBounds_toArray, List.set_cons_zero, List.set_cons_succ]))
    | ((with_reducible refine at_callD 39 ?_); refine L_give (by rfl) (g_slen _ _ _ rfl rfl ?_); (try simp only [Act.put, List.setIfInBounds_toArray, List.set_cons_zero, List.set_cons_succ]))
    | ((with_reducible refine at_binD 40 ?_); refine L_give (by rfl) (g_ine 3 _ _ .i64 _ _ false rfl rfl (decide_eq_false (fun h => h zT)) ?_); (try simp only [Act.put, List.setIfInBounds_toArray, List.set_cons_zero, List.set_cons_succ]))
    | ((with_reducible refine at_loadD 43 26 ?_); refine L_give (by rfl) (g_load_all 26 _ (w.heap.size) (hc (h)) 26 _ rfl (b_h) Try.underlying26 rfl (szH hz) ?_); (try simp only [Act.put, List.setIfInBounds_toArray, List.set_cons_zero, List.set_cons_succ]))
    | ((with_reducible refine at_callD 44 ?_); refine L_give (by rfl) (g_call 16 _ _ [.agg (hc (h)).toArray] (kf16 _ _) rfl ((may_any h true w6 hm).mono ?_)); rintro e w7 ⟨rfl, t_⟩; refine ⟨_, rfl, ?_⟩; replace b_h := b_h.below t_ b_h.lt; replace b_g := b_g.below t_ b_g.lt; replace hB := hB.trans (t_.mono hB.size); clear t_; (try simp only [Act.put, List.setIfInBounds_toArray, List.set_cons_zero, List.set_cons_succ]))
    | ((with_reducible refine at_callD 55 ?_); refine L_give (by rfl) (g_call 14 _ _ [.string (s)] (kf14 _ _) rfl ((htake_any s hz F w7 hG).mono ?_)); rintro e w8 ⟨rfl, t_⟩; refine ⟨_, rfl, ?_⟩; replace b_h := b_h.below t_ b_h.lt; replace b_g := b_g.below t_ b_g.lt; replace hB := hB.trans (t_.mono hB.size); clear t_; (try simp only [Act.put, List.setIfInBounds_toArray, List.set_cons_zero, List.set_cons_succ]))
    | ((with_reducible refine at_allocD 9 26 ?_); refine L_alloc 26 (hc (hz)) zeroH ?_; intro w9 t_ b_k; have o_h_k := b_h.lt; have o_g_k := b_g.lt; have l_hB_k : _ ≤ w8.heap.size := hB.size; replace b_h := t_.blk b_h (Nat.ne_of_lt b_h.lt); replace b_g := t_.blk b_g (Nat.ne_of_lt b_g.lt); replace hB := t_.below hB l_hB_k; clear t_; (try simp only [Act.put, List.setIfInBounds_toArray, List.set_cons_zero, List.set_cons_succ]))
    | ((with_reducible refine at_storeX 9 26 ?_); refine L_store_all 26 _ _ (w8.heap.size) (hc (hz)) _ 26 rfl rfl b_k (szH hz) rfl (one_hc _) ?_; clear b_k; intro w10 t_ b_k; replace b_h := t_.blk b_h (Nat.ne_of_lt o_h_k); replace b_g := t_.blk b_g (Nat.ne_of_lt o_g_k); replace hB := t_.below hB l_hB_k; clear t_)
    | ((with_reducible refine at_binD 59 ?_); refine L_give (by rfl) (g_ine 28 _ _ .i64 _ _ true rfl rfl (decide_eq_true hF) ?_); (try simp only [Act.put, List.setIfInBounds_toArray, List.set_cons_zero, List.set_cons_succ]))
    | ((with_reducible refine at_loadD 60 26 ?_); refine L_give (by rfl) (g_load_all 26 _ (w8.heap.size) (hc (hz)) 26 _ rfl (b_k) Try.underlying26 rfl (szH hz) ?_); (try simp only [Act.put, List.setIfInBounds_toArray, List.set_cons_zero, List.set_cons_succ]))
    | ((with_reducible refine at_bld 61 ?_); refine L_give (by rfl) (g_bldH0 ?_); (try simp only [Act.put, List.setIfInBounds_toArray, List.set_cons_zero, List.set_cons_succ]))
    | ((with_reducible refine at_binD 62 ?_); refine L_give (by rfl) (g_eqlH _ _ (hz) rfl rfl ?_); (try simp only [Act.put, List.setIfInBounds_toArray, List.set_cons_zero, List.set_cons_succ])))
  go_ret
  exact ⟨rfl, hB⟩
set_option maxRecDepth 10000 in
set_option maxHeartbeats 4000000 in
theorem walk2_10 (h : Hd) (s : ByteArray) (w : World) (hi : InH h) (hl : ¬ (2048 : Int) < (s.size : Int)) (hT : Hid (pt h = (ByteArray.empty, 2))) (hm : Hid (may h = false)) (G : Hd) (hiG : InH G) (hG : Hid (tk s = (G, 0))) (hP : Hid (pt G = (s, 0))) : Calls Try.prog 5 #[.agg (hc h).toArray, .string s] w fun e w' => e = .returned (.bool true) ∧ Below w.heap.size w w' := by
  go_enter Try.func5, Try.ntmps5
  go_wp2_with (first
    | ((with_reducible refine at_boxD 2 26 ?_); refine L_box 26 _ (hc (h)) rfl ?_; intro w1 t_ b_h; have l_hB_h : w.heap.size ≤ w.heap.size := Nat.le_refl _; have hB : Below w.heap.size w w1 := t_.below (Below.refl _ _) (Nat.le_refl _); clear t_; (try simp only [Act.put, List.setIfInBounds_toArray, List.set_cons_zero, List.set_cons_succ]))
    | ((with_reducible refine at_callD 13 ?_); refine L_give (by rfl) (g_call 11 _ _ [] (kf11 _ _) rfl ((awake_any w1).mono ?_)); rintro e w2 ⟨rfl, t_⟩; refine ⟨_, rfl, ?_⟩; replace b_h := b_h.below t_ b_h.lt; replace hB := hB.trans (t_.mono hB.size); clear t_; (try simp only [Act.put, List.setIfInBounds_toArray, List.set_cons_zero, List.set_cons_succ]))
    | ((with_reducible refine at_callD 16 ?_); refine L_give (by rfl) (g_slen _ _ _ rfl rfl ?_); (try simp only [Act.put, List.setIfInBounds_toArray, List.set_cons_zero, List.set_cons_succ]))
    | ((with_reducible refine at_binD 17 ?_); refine L_give (by rfl) (g_igtr 3 _ _ .i64 _ _ false rfl rfl (decide_eq_false hl) ?_); (try simp only [Act.put, List.setIfInBounds_toArray, List.set_cons_zero, List.set_cons_succ]))
    | ((with_reducible refine at_loadD 19 26 ?_); refine L_give (by rfl) (g_load_all 26 _ (w.heap.size) (hc (h)) 26 _ rfl (b_h) Try.underlying26 rfl (szH hz) ?_); (try simp only [Act.put, List.setIfInBounds_toArray, List.set_cons_zero, List.set_cons_succ]))
    | ((with_reducible refine at_callD 20 ?_); refine L_give (by rfl) (g_call 12 _ _ [.agg (hc (h)).toArray] (kf12 _ _) rfl ((hput_any h ByteArray.empty 2 w2 hi hT).mono ?_)); rintro e w3 ⟨rfl, t_⟩; refine ⟨_, rfl, ?_⟩; replace b_h := b_h.below t_ b_h.lt; replace hB := hB.trans (t_.mono hB.size); clear t_; (try simp only [Act.put, List.setIfInBounds_toArray, List.set_cons_zero, List.set_cons_succ]))
    | ((with_reducible refine at_binD 24 ?_); refine L_give (by rfl) (g_ieq 28 _ _ .i64 _ _ false rfl rfl (by decide) ?_); (try simp only [Act.put, List.setIfInBounds_toArray, List.set_cons_zero, List.set_cons_succ]))
    | ((with_reducible refine at_binD 48 ?_); refine L_give (by rfl) (g_sneq 9 _ _ (ByteArray.empty) (⟨#[]⟩) true rfl rfl (decide_eq_true rfl) ?_); (try simp only [Act.put, List.setIfInBounds_toArray, List.set_cons_zero, List.set_cons_succ]))
    | ((with_reducible refine at_loadD 50 26 ?_); refine L_give (by rfl) (g_load_all 26 _ (w.heap.size) (hc (h)) 26 _ rfl (b_h) Try.underlying26 rfl (szH hz) ?_); (try simp only [Act.put, List.setIfInBounds_toArray, List.set_cons_zero, List.set_cons_succ]))
    | ((with_reducible refine at_callD 51 ?_); refine L_give (by rfl) (g_call 16 _ _ [.agg (hc (h)).toArray] (kf16 _ _) rfl ((may_any h false w3 hm).mono ?_)); rintro e w4 ⟨rfl, t_⟩; refine ⟨_, rfl, ?_⟩; replace b_h := b_h.below t_ b_h.lt; replace hB := hB.trans (t_.mono hB.size); clear t_; (try simp only [Act.put, List.setIfInBounds_toArray, List.set_cons_zero, List.set_cons_succ]))
    | ((with_reducible refine at_callD 55 ?_); refine L_give (by rfl) (g_call 14 _ _ [.string (s)] (kf14 _ _) rfl ((htake_any s G 0 w4 hG).mono ?_)); rintro e w5 ⟨rfl, t_⟩; refine ⟨_, rfl, ?_⟩; replace b_h := b_h.below t_ b_h.lt; replace hB := hB.trans (t_.mono hB.size); clear t_; (try simp only [Act.put, List.setIfInBounds_toArray, List.set_cons_zero, List.set_cons_succ]))
    | ((with_reducible refine at_allocD 9 26 ?_); refine L_alloc 26 (hc (hz)) zeroH ?_; intro w6 t_ b_k; have o_h_k := b_h.lt; have l_hB_k : _ ≤ w5.heap.size := hB.size; replace b_h := t_.blk b_h (Nat.ne_of_lt b_h.lt); replace hB := t_.below hB l_hB_k; clear t_; (try simp only [Act.put, List.setIfInBounds_toArray, List.set_cons_zero, List.set_cons_succ]))
    | ((with_reducible refine at_storeX 9 26 ?_); refine L_store_all 26 _ _ (w5.heap.size) (hc (G)) _ 26 rfl rfl b_k (szH hz) rfl (one_hc _) ?_; clear b_k; intro w7 t_ b_k; replace b_h := t_.blk b_h (Nat.ne_of_lt o_h_k); replace hB := t_.below hB l_hB_k; clear t_)
    | ((with_reducible refine at_binD 59 ?_); refine L_give (by rfl) (g_ine 28 _ _ .i64 _ _ false rfl rfl (by decide) ?_); (try simp only [Act.put, List.setIfInBounds_toArray, List.set_cons_zero, List.set_cons_succ]))
    | ((with_reducible refine at_loadD 64 26 ?_); refine L_give (by rfl) (g_load_all 26 _ (w5.heap.size) (hc (G)) 26 _ rfl (b_k) Try.underlying26 rfl (szH hz) ?_); (try simp only [Act.put, List.setIfInBounds_toArray, List.set_cons_zero, List.set_cons_succ]))
    | ((with_reducible refine at_callD 65 ?_); refine L_give (by rfl) (g_call 12 _ _ [.agg (hc (G)).toArray] (kf12 _ _) rfl ((hput_any G s 0 w7 hiG hP).mono ?_)); rintro e w8 ⟨rfl, t_⟩; refine ⟨_, rfl, ?_⟩; replace b_h := b_h.below t_ b_h.lt; replace b_k := b_k.below t_ b_k.lt; replace hB := hB.trans (t_.mono hB.size); clear t_; (try simp only [Act.put, List.setIfInBounds_toArray, List.set_cons_zero, List.set_cons_succ]))
    | ((with_reducible refine at_binD 69 ?_); refine L_give (by rfl) (g_ieq 28 _ _ .i64 _ _ true rfl rfl (by decide) ?_); (try simp only [Act.put, List.setIfInBounds_toArray, List.set_cons_zero, List.set_cons_succ]))
    | ((with_reducible refine at_binD 73 ?_); refine L_give (by rfl) (g_seql 9 _ _ (s) (s) true rfl rfl (decide_eq_true rfl) ?_); (try simp only [Act.put, List.setIfInBounds_toArray, List.set_cons_zero, List.set_cons_succ])))
  go_ret
  exact ⟨rfl, hB⟩
set_option maxRecDepth 10000 in
set_option maxHeartbeats 4000000 in
theorem walk2_11 (h : Hd) (s : ByteArray) (w : World) (hi : InH h) (hl : ¬ (2048 : Int) < (s.size : Int)) (hT : Hid (pt h = (ByteArray.empty, 2))) (hm : Hid (may h = false)) (F : Int) (hF : F ≠ 0) (hG : Hid (tk s = (hz, F))) : Calls Try.prog 5 #[.agg (hc h).toArray, .string s] w fun e w' => e = .returned (.bool true) ∧ Below w.heap.size w w' := by
  go_enter Try.func5, Try.ntmps5
  go_wp2_with (first
    | ((with_reducible refine at_boxD 2 26 ?_); refine L_box 26 _ (hc (h)) rfl ?_; intro w1 t_ b_h; have l_hB_h : w.heap.size ≤ w.heap.size := Nat.le_refl _; have hB : Below w.heap.size w w1 := t_.below (Below.refl _ _) (Nat.le_refl _); clear t_; (try simp only [Act.put, List.setIfInBounds_toArray, List.set_cons_zero, List.set_cons_succ]))
    | ((with_reducible refine at_callD 13 ?_); refine L_give (by rfl) (g_call 11 _ _ [] (kf11 _ _) rfl ((awake_any w1).mono ?_)); rintro e w2 ⟨rfl, t_⟩; refine ⟨_, rfl, ?_⟩; replace b_h := b_h.below t_ b_h.lt; replace hB := hB.trans (t_.mono hB.size); clear t_; (try simp only [Act.put, List.setIfInBounds_toArray, List.set_cons_zero, List.set_cons_succ]))
    | ((with_reducible refine at_callD 16 ?_); refine L_give (by rfl) (g_slen _ _ _ rfl rfl ?_); (try simp only [Act.put, List.setIfInBounds_toArray, List.set_cons_zero, List.set_cons_succ]))
    | ((with_reducible refine at_binD 17 ?_); refine L_give (by rfl) (g_igtr 3 _ _ .i64 _ _ false rfl rfl (decide_eq_false hl) ?_); (try simp only [Act.put, List.setIfInBounds_toArray, List.set_cons_zero, List.set_cons_succ]))
    | ((with_reducible refine at_loadD 19 26 ?_); refine L_give (by rfl) (g_load_all 26 _ (w.heap.size) (hc (h)) 26 _ rfl (b_h) Try.underlying26 rfl (szH hz) ?_); (try simp only [Act.put, List.setIfInBounds_toArray, List.set_cons_zero, List.set_cons_succ]))
    | ((with_reducible refine at_callD 20 ?_); refine L_give (by rfl) (g_call 12 _ _ [.agg (hc (h)).toArray] (kf12 _ _) rfl ((hput_any h ByteArray.empty 2 w2 hi hT).mono ?_)); rintro e w3 ⟨rfl, t_⟩; refine ⟨_, rfl, ?_⟩; replace b_h := b_h.below t_ b_h.lt; replace hB := hB.trans (t_.mono hB.size); clear t_; (try simp only [Act.put, List.setIfInBounds_toArray, List.set_cons_zero, List.set_cons_succ]))
    | ((with_reducible refine at_binD 24 ?_); refine L_give (by rfl) (g_ieq 28 _ _ .i64 _ _ false rfl rfl (by decide) ?_); (try simp only [Act.put, List.setIfInBounds_toArray, List.set_cons_zero, List.set_cons_succ]))
    | ((with_reducible refine at_binD 48 ?_); refine L_give (by rfl) (g_sneq 9 _ _ (ByteArray.empty) (⟨#[]⟩) true rfl rfl (decide_eq_true rfl) ?_); (try simp only [Act.put, List.setIfInBounds_toArray, List.set_cons_zero, List.set_cons_succ]))
    | ((with_reducible refine at_loadD 50 26 ?_); refine L_give (by rfl) (g_load_all 26 _ (w.heap.size) (hc (h)) 26 _ rfl (b_h) Try.underlying26 rfl (szH hz) ?_); (try simp only [Act.put, List.setIfInBounds_toArray, List.set_cons_zero, List.set_cons_succ]))
    | ((with_reducible refine at_callD 51 ?_); refine L_give (by rfl) (g_call 16 _ _ [.agg (hc (h)).toArray] (kf16 _ _) rfl ((may_any h false w3 hm).mono ?_)); rintro e w4 ⟨rfl, t_⟩; refine ⟨_, rfl, ?_⟩; replace b_h := b_h.below t_ b_h.lt; replace hB := hB.trans (t_.mono hB.size); clear t_; (try simp only [Act.put, List.setIfInBounds_toArray, List.set_cons_zero, List.set_cons_succ]))
    | ((with_reducible refine at_callD 55 ?_); refine L_give (by rfl) (g_call 14 _ _ [.string (s)] (kf14 _ _) rfl ((htake_any s hz F w4 hG).mono ?_)); rintro e w5 ⟨rfl, t_⟩; refine ⟨_, rfl, ?_⟩; replace b_h := b_h.below t_ b_h.lt; replace hB := hB.trans (t_.mono hB.size); clear t_; (try simp only [Act.put, List.setIfInBounds_toArray, List.set_cons_zero, List.set_cons_succ]))
    | ((with_reducible refine at_allocD 9 26 ?_); refine L_alloc 26 (hc (hz)) zeroH ?_; intro w6 t_ b_k; have o_h_k := b_h.lt; have l_hB_k : _ ≤ w5.heap.size := hB.size; replace b_h := t_.blk b_h (Nat.ne_of_lt b_h.lt); replace hB := t_.below hB l_hB_k; clear t_; (try simp only [Act.put, List.setIfInBounds_toArray, List.set_cons_zero, List.set_cons_succ]))
    | ((with_reducible refine at_storeX 9 26 ?_); refine L_store_all 26 _ _ (w5.heap.size) (hc (hz)) _ 26 rfl rfl b_k (szH hz) rfl (one_hc _) ?_; clear b_k; intro w7 t_ b_k; replace b_h := t_.blk b_h (Nat.ne_of_lt o_h_k); replace hB := t_.below hB l_hB_k; clear t_)
    | ((with_reducible refine at_binD 59 ?_); refine L_give (by rfl) (g_ine 28 _ _ .i64 _ _ true rfl rfl (decide_eq_true hF) ?_); (try simp only [Act.put, List.setIfInBounds_toArray, List.set_cons_zero, List.set_cons_succ]))
    | ((with_reducible refine at_loadD 60 26 ?_); refine L_give (by rfl) (g_load_all 26 _ (w5.heap.size) (hc (hz)) 26 _ rfl (b_k) Try.underlying26 rfl (szH hz) ?_); (try simp only [Act.put, List.setIfInBounds_toArray, List.set_cons_zero, List.set_cons_succ]))
    | ((with_reducible refine at_bld 61 ?_); refine L_give (by rfl) (g_bldH0 ?_); (try simp only [Act.put, List.setIfInBounds_toArray, List.set_cons_zero, List.set_cons_succ]))
    | ((with_reducible refine at_binD 62 ?_); refine L_give (by rfl) (g_eqlH _ _ (hz) rfl rfl ?_); (try simp only [Act.put, List.setIfInBounds_toArray, List.set_cons_zero, List.set_cons_succ])))
  go_ret
  exact ⟨rfl, hB⟩
theorem walk (h : Hd) (s : ByteArray) (w : World) (hi : InH h) : Calls Try.prog 5 #[.agg (hc h).toArray, .string s] w fun e w' => e = .returned (.bool true) ∧ Below w.heap.size w w' := by
  by_cases hl : (2048 : Int) < (s.size : Int)
  · exact walk1 h s w hi hl
  · obtain ⟨G, F, hG⟩ : ∃ G F, tk s = (G, F) := ⟨_, _, rfl⟩
    cases hm : may h with
    | true =>
      have z : (((⟨(hb h).toArray⟩ : ByteArray).size : Nat) : Int) = 48 := by rw [size_toArray, hb_length]; rfl
      by_cases hF : F = 0
      · subst hF
        obtain ⟨a, b, c⟩ := tk_ok s G hG
        exact walk2_00 h s w hi hl _ z (pt_ok h hm) (tk_hb h hm hi) hm G b hG (by show _ = _; rw [pt_ok G a, c])
      · obtain rfl := tk_bad s G F hG hF
        exact walk2_01 h s w hi hl _ z (pt_ok h hm) (tk_hb h hm hi) hm F hF hG
    | false =>
      by_cases hF : F = 0
      · subst hF
        obtain ⟨a, b, c⟩ := tk_ok s G hG
        exact walk2_10 h s w hi hl (pt_bad h hm) hm G b hG (by show _ = _; rw [pt_ok G a, c])
      · obtain rfl := tk_bad s G F hG hF
        exact walk2_11 h s w hi hl (pt_bad h hm) hm F hF hG
end Go.Proofs.Yteieacamokoejaa.headBack
