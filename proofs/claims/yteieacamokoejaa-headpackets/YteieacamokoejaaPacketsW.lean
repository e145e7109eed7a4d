/- HeadPackets: the walk. -/
import Derived.Test.YteieacamokoejaaLawB
namespace Go.Proofs.Yteieacamokoejaa.headPackets
open Go Go.RowKit
set_option linter.unusedVariables false
set_option linter.unusedSimpArgs false

set_option maxRecDepth 10000 in
set_option maxHeartbeats 4000000 in
theorem walk1 (h : Hd) (l : List (Int × ByteArray)) (ao : Option Addr) (cap : Nat) (s : ByteArray) (w : World) (hi : InH h) (hn : l.length ≤ 140737488355328) (hf : Fis w (.slice ao l.length cap) l) (hcap : l.length ≤ cap) (hl : (2048 : Int) < (s.size : Int)) : Calls Try.prog 6 #[.agg (hc h).toArray, .slice ao l.length cap, .string s] w fun e w' => e = .returned (.bool true) ∧ Below w.heap.size w w' := by
  go_enter Try.func6, Try.ntmps6
  go_wp2_with (first
    | ((with_reducible refine at_boxD 3 26 ?_); refine L_box 26 _ (hc (h)) rfl ?_; intro w1 t_ b_h; have l_hB_h : w.heap.size ≤ w.heap.size := Nat.le_refl _; have hB : Below w.heap.size w w1 := t_.below (Below.refl _ _) (Nat.le_refl _); clear t_; (try simp only [Act.put, List.setIfInBounds_toArray, List.set_cons_zero, List.set_cons_succ]))
    | ((with_reducible refine at_callD 17 ?_); refine L_give (by rfl) (g_call 11 _ _ [] (kf11 _ _) rfl ((awake_any w1).mono ?_)); rintro e w2 ⟨rfl, t_⟩; refine ⟨_, rfl, ?_⟩; replace b_h := b_h.below t_ b_h.lt; replace hB := hB.trans (t_.mono hB.size); clear t_; (try simp only [Act.put, List.setIfInBounds_toArray, List.set_cons_zero, List.set_cons_succ]))
    | ((with_reducible refine at_callD 20 ?_); refine L_give (by rfl) (g_slen _ _ _ rfl rfl ?_); (try simp only [Act.put, List.setIfInBounds_toArray, List.set_cons_zero, List.set_cons_succ]))
    | ((with_reducible refine at_binD 21 ?_); refine L_give (by rfl) (g_igtr 3 _ _ .i64 _ _ true rfl rfl (decide_eq_true hl) ?_); (try simp only [Act.put, List.setIfInBounds_toArray, List.set_cons_zero, List.set_cons_succ])))
  go_ret
  exact ⟨rfl, hB⟩
set_option maxRecDepth 10000 in
set_option maxHeartbeats 4000000 in
theorem walk2_00 (h : Hd) (l : List (Int × ByteArray)) (ao : Option Addr) (cap : Nat) (s : ByteArray) (w : World) (hi : InH h) (hn : l.length ≤ 140737488355328) (hf : Fis w (.slice ao l.length cap) l) (hcap : l.length ≤ cap) (hl : ¬ (2048 : Int) < (s.size : Int)) (T : ByteArray) (zT : T.size ≤ 100000) (h4 : Hid (((T.size : Nat) : Int).tmod 4 = 0)) (hW : Hid (wr h l = (T, 0))) (hR : Hid (rdp T = (h, l, 0))) (G : Hd) (m : List (Int × ByteArray)) (hiG : InH G) (hm : m.length ≤ 140737488355328) (hR2 : Hid (rdp s = (G, m, 0))) (hW2 : Hid (wr G m = (s, 0))) : Calls Try.prog 6 #[.agg (hc h).toArray, .slice ao l.length cap, .string s] w fun e w' => e = .returned (.bool true) ∧ Below w.heap.size w w' := by
  go_enter Try.func6, Try.ntmps6
  go_wp2_with (first
    | ((with_reducible refine at_boxD 3 26 ?_); refine L_box 26 _ (hc (h)) rfl ?_; intro w1 t_ b_h; have l_hB_h : w.heap.size ≤ w.heap.size := Nat.le_refl _; have hB : Below w.heap.size w w1 := t_.below (Below.refl _ _) (Nat.le_refl _); clear t_; (try simp only [Act.put, List.setIfInBounds_toArray, List.set_cons_zero, List.set_cons_succ]))
    | ((with_reducible refine at_callD 17 ?_); refine L_give (by rfl) (g_call 11 _ _ [] (kf11 _ _) rfl ((awake_any w1).mono ?_)); rintro e w2 ⟨rfl, t_⟩; refine ⟨_, rfl, ?_⟩; replace b_h := b_h.below t_ b_h.lt; replace hB := hB.trans (t_.mono hB.size); clear t_; (try simp only [Act.put, List.setIfInBounds_toArray, List.set_cons_zero, List.set_cons_succ]))
    | ((with_reducible refine at_callD 20 ?_); refine L_give (by rfl) (g_slen _ _ _ rfl rfl ?_); (try simp only [Act.put, List.setIfInBounds_toArray, List.set_cons_zero, List.set_cons_succ]))
    | ((with_reducible refine at_binD 21 ?_); refine L_give (by rfl) (g_igtr 3 _ _ .i64 _ _ false rfl rfl (decide_eq_false hl) ?_); (try simp only [Act.put, List.setIfInBounds_toArray, List.set_cons_zero, List.set_cons_succ]))
    | (refine stop_list 24 ?_; intro X hX))
  refine hX.out ?_
  clear hX X
  refine L_give (by rfl) (g_call 18 _ _ [.slice ao l.length cap] (kf18 _ _) rfl ((large_any l ao cap w2 hn (hf.below hB)).mono ?_))
  rintro e w3 ⟨rfl | rfl, t_⟩
  · refine ⟨_, rfl, ?_⟩
    replace b_h := b_h.below t_ b_h.lt
    replace hB := hB.trans (t_.mono hB.size)
    clear t_
    (try simp only [Act.put, List.setIfInBounds_toArray, List.set_cons_zero, List.set_cons_succ])
    go_wp2
    go_ret
    exact ⟨rfl, hB⟩
  · refine ⟨_, rfl, ?_⟩
    replace b_h := b_h.below t_ b_h.lt
    replace hB := hB.trans (t_.mono hB.size)
    clear t_
    (try simp only [Act.put, List.setIfInBounds_toArray, List.set_cons_zero, List.set_cons_succ])
    go_wp2_with (first
      | ((with_reducible refine at_loadD 27 26 ?_); refine L_give (by rfl) (g_load_all 26 _ (w.heap.size) (hc (h)) 26 _ rfl (b_h) Try.underlying26 rfl (szH hz) ?_); (try simp only [Act.put, List.setIfInBounds_toArray, List.set_cons_zero, List.set_cons_succ]))
      | ((with_reducible refine at_callD 29 ?_); refine L_give (by rfl) (g_call 21 _ _ [.agg (hc (h)).toArray, .slice ao l.length cap] (kf21 _ _) rfl ((hwrite_any h l ao cap w3 hi hn (hf.below hB) T 0 hW).mono ?_)); rintro e w4 ⟨rfl, t_⟩; refine ⟨_, rfl, ?_⟩; replace b_h := b_h.below t_ b_h.lt; replace hB := hB.trans (t_.mono hB.size); clear t_; (try simp only [Act.put, List.setIfInBounds_toArray, List.set_cons_zero, List.set_cons_succ]))
      | ((with_reducible refine at_binD 33 ?_); refine L_give (by rfl) (g_ieq 28 _ _ .i64 _ _ true rfl rfl (by decide) ?_); (try simp only [Act.put, List.setIfInBounds_toArray, List.set_cons_zero, List.set_cons_succ]))
      | ((with_reducible refine at_callD 36 ?_); refine L_give (by rfl) (g_call 19 _ _ [.string (T)] (kf19 _ _) rfl ((hread_s T h l 0 w4 (by omega) hR).mono ?_)); rintro e w5 ⟨ao1, cap1, rfl, p_m, t_⟩; refine ⟨_, rfl, ?_⟩; replace b_h := b_h.below t_ b_h.lt; replace hB := hB.trans (t_.mono hB.size); clear t_; have hA1 : Below w5.heap.size w5 w5 := Below.refl _ _; (try simp only [Act.put, List.setIfInBounds_toArray, List.set_cons_zero, List.set_cons_succ]))
      | ((with_reducible refine at_allocD 9 26 ?_); refine L_alloc 26 (hc (hz)) zeroH ?_; intro w6 t_ b_g; have o_h_g := b_h.lt; have l_hB_g : _ ≤ w5.heap.size := hB.size; have l_hA1_g : _ ≤ w5.heap.size := hA1.size; replace b_h := t_.blk b_h (Nat.ne_of_lt b_h.lt); replace hB := t_.below hB l_hB_g; replace hA1 := t_.below hA1 l_hA1_g; clear t_; (try simp only [Act.put, List.setIfInBounds_toArray, List.set_cons_zero, List.set_cons_succ]))
      | ((with_reducible refine at_storeX 9 26 ?_); refine L_store_all 26 _ _ (w5.heap.size) (hc (h)) _ 26 rfl rfl b_g (szH hz) rfl (one_hc _) ?_; clear b_g; intro w7 t_ b_g; replace b_h := t_.blk b_h (Nat.ne_of_lt o_h_g); replace hB := t_.below hB l_hB_g; replace hA1 := t_.below hA1 l_hA1_g; clear t_)
      | ((with_reducible refine at_loadD 40 26 ?_); refine L_give (by rfl) (g_load_all 26 _ (w5.heap.size) (hc (h)) 26 _ rfl (b_g) Try.underlying26 rfl (szH hz) ?_); (try simp only [Act.put, List.setIfInBounds_toArray, List.set_cons_zero, List.set_cons_succ]))
      | ((with_reducible refine at_loadD 41 26 ?_); refine L_give (by rfl) (g_load_all 26 _ (w.heap.size) (hc (h)) 26 _ rfl (b_h) Try.underlying26 rfl (szH hz) ?_); (try simp only [Act.put, List.setIfInBounds_toArray, List.set_cons_zero, List.set_cons_succ]))
      | ((with_reducible refine at_binD 42 ?_); refine L_give (by rfl) (g_neqH _ _ (h) rfl rfl ?_); (try simp only [Act.put, List.setIfInBounds_toArray, List.set_cons_zero, List.set_cons_succ]))
      | ((with_reducible refine at_callD 46 ?_); refine L_give (by rfl) (g_call 23 _ _ [.slice ao1 l.length cap1, .slice ao l.length cap] (kf23 _ _) rfl ((same_any l ao1 ao cap1 cap w7 hn (p_m.below hA1) (hf.below hB)).mono ?_)); rintro e w8 ⟨rfl, t_⟩; refine ⟨_, rfl, ?_⟩; replace b_h := b_h.below t_ b_h.lt; replace b_g := b_g.below t_ b_g.lt; replace hB := hB.trans (t_.mono hB.size); replace hA1 := hA1.trans (t_.mono hA1.size); clear t_; (try simp only [Act.put, List.setIfInBounds_toArray, List.set_cons_zero, List.set_cons_succ]))
      | ((with_reducible refine at_binD 51 ?_); refine L_give (by rfl) (g_ine 28 _ _ .i64 _ _ false rfl rfl (by decide) ?_); (try simp only [Act.put, List.setIfInBounds_toArray, List.set_cons_zero, List.set_cons_succ]))
      | ((with_reducible refine at_callD 55 ?_); refine L_give (by rfl) (g_slen _ _ _ rfl rfl ?_); (try simp only [Act.put, List.setIfInBounds_toArray, List.set_cons_zero, List.set_cons_succ]))
      | ((with_reducible refine at_binD 56 ?_); refine L_give (by rfl) (g_irem 3 _ _ .i64 _ _ 0 rfl rfl (by decide) h4.out ?_); (try simp only [Act.put, List.setIfInBounds_toArray, List.set_cons_zero, List.set_cons_succ]))
      | ((with_reducible refine at_binD 57 ?_); refine L_give (by rfl) (g_ine 3 _ _ .i64 _ _ false rfl rfl (by decide) ?_); (try simp only [Act.put, List.setIfInBounds_toArray, List.set_cons_zero, List.set_cons_succ]))
      | ((with_reducible refine at_callD 63 ?_); refine L_give (by rfl) (g_call 19 _ _ [.string (s)] (kf19 _ _) rfl ((hread_s s G m 0 w8 (by omega) hR2).mono ?_)); rintro e w9 ⟨ao2, cap2, rfl, p_q, t_⟩; refine ⟨_, rfl, ?_⟩; replace b_h := b_h.below t_ b_h.lt; replace b_g := b_g.below t_ b_g.lt; replace hB := hB.trans (t_.mono hB.size); replace hA1 := hA1.trans (t_.mono hA1.size); clear t_; have hA2 : Below w9.heap.size w9 w9 := Below.refl _ _; (try simp only [Act.put, List.setIfInBounds_toArray, List.set_cons_zero, List.set_cons_succ]))
      | ((with_reducible refine at_allocD 12 26 ?_); refine L_alloc 26 (hc (hz)) zeroH ?_; intro w10 t_ b_k; have o_h_k := b_h.lt; have o_g_k := b_g.lt; have l_hB_k : _ ≤ w9.heap.size := hB.size; have l_hA1_k : _ ≤ w9.heap.size := hA1.size; have l_hA2_k : _ ≤ w9.heap.size := hA2.size; replace b_h := t_.blk b_h (Nat.ne_of_lt b_h.lt); replace b_g := t_.blk b_g (Nat.ne_of_lt b_g.lt); replace hB := t_.below hB l_hB_k; replace hA1 := t_.below hA1 l_hA1_k; replace hA2 := t_.below hA2 l_hA2_k; clear t_; (try simp only [Act.put, List.setIfInBounds_toArray, List.set_cons_zero, List.set_cons_succ]))
      | ((with_reducible refine at_storeX 12 26 ?_); refine L_store_all 26 _ _ (w9.heap.size) (hc (G)) _ 26 rfl rfl b_k (szH hz) rfl (one_hc _) ?_; clear b_k; intro w11 t_ b_k; replace b_h := t_.blk b_h (Nat.ne_of_lt o_h_k); replace b_g := t_.blk b_g (Nat.ne_of_lt o_g_k); replace hB := t_.below hB l_hB_k; replace hA1 := t_.below hA1 l_hA1_k; replace hA2 := t_.below hA2 l_hA2_k; clear t_)
      | ((with_reducible refine at_binD 68 ?_); refine L_give (by rfl) (g_ine 28 _ _ .i64 _ _ false rfl rfl (by decide) ?_); (try simp only [Act.put, List.setIfInBounds_toArray, List.set_cons_zero, List.set_cons_succ]))
      | ((with_reducible refine at_loadD 78 26 ?_); refine L_give (by rfl) (g_load_all 26 _ (w9.heap.size) (hc (G)) 26 _ rfl (b_k) Try.underlying26 rfl (szH hz) ?_); (try simp only [Act.put, List.setIfInBounds_toArray, List.set_cons_zero, List.set_cons_succ]))
      | ((with_reducible refine at_callD 80 ?_); refine L_give (by rfl) (g_call 21 _ _ [.agg (hc (G)).toArray, .slice ao2 m.length cap2] (kf21 _ _) rfl ((hwrite_any G m ao2 cap2 w11 hiG hm (p_q.below hA2) s 0 hW2).mono ?_)); rintro e w12 ⟨rfl, t_⟩; refine ⟨_, rfl, ?_⟩; replace b_h := b_h.below t_ b_h.lt; replace b_g := b_g.below t_ b_g.lt; replace b_k := b_k.below t_ b_k.lt; replace hB := hB.trans (t_.mono hB.size); replace hA1 := hA1.trans (t_.mono hA1.size); replace hA2 := hA2.trans (t_.mono hA2.size); clear t_; (try simp only [Act.put, List.setIfInBounds_toArray, List.set_cons_zero, List.set_cons_succ]))
      | ((with_reducible refine at_binD 84 ?_); refine L_give (by rfl) (g_ieq 28 _ _ .i64 _ _ true rfl rfl (by decide) ?_); (try simp only [Act.put, List.setIfInBounds_toArray, List.set_cons_zero, List.set_cons_succ]))
      | ((with_reducible refine at_binD 88 ?_); refine L_give (by rfl) (g_seql 9 _ _ (s) (s) true rfl rfl (decide_eq_true rfl) ?_); (try simp only [Act.put, List.setIfInBounds_toArray, List.set_cons_zero, List.set_cons_succ])))
    go_ret
    exact ⟨rfl, hB⟩
set_option maxRecDepth 10000 in
set_option maxHeartbeats 4000000 in
theorem walk2_01 (h : Hd) (l : List (Int × ByteArray)) (ao : Option Addr) (cap : Nat) (s : ByteArray) (w : World) (hi : InH h) (hn : l.length ≤ 140737488355328) (hf : Fis w (.slice ao l.length cap) l) (hcap : l.length ≤ cap) (hl : ¬ (2048 : Int) < (s.size : Int)) (T : ByteArray) (zT : T.size ≤ 100000) (h4 : Hid (((T.size : Nat) : Int).tmod 4 = 0)) (hW : Hid (wr h l = (T, 0))) (hR : Hid (rdp T = (h, l, 0))) (F : Int) (hF : F ≠ 0) (hR2 : Hid (rdp s = (hz, [], F))) : Calls Try.prog 6 #[.agg (hc h).toArray, .slice ao l.length cap, .string s] w fun e w' => e = .returned (.bool true) ∧ Below w.heap.size w w' := by
  go_enter Try.func6, Try.ntmps6
  go_wp2_with (first
    | ((with_reducible refine at_boxD 3 26 ?_); refine L_box 26 _ (hc (h)) rfl ?_; intro w1 t_ b_h; have l_hB_h : w.heap.size ≤ w.heap.size := Nat.le_refl _; have hB : Below w.heap.size w w1 := t_.below (Below.refl _ _) (Nat.le_refl _); clear t_; (try simp only [Act.put, List.setIfInBounds_toArray, List.set_cons_zero, List.set_cons_succ]))
    | ((with_reducible refine at_callD 17 ?_); refine L_give (by rfl) (g_call 11 _ _ [] (kf11 _ _) rfl ((awake_any w1).mono ?_)); rintro e w2 ⟨rfl, t_⟩; refine ⟨_, rfl, ?_⟩; replace b_h := b_h.below t_ b_h.lt; replace hB := hB.trans (t_.mono hB.size); clear t_; (try simp only [Act.put, List.setIfInBounds_toArray, List.set_cons_zero, List.set_cons_succ]))
    | ((with_reducible refine at_callD 20 ?_); refine L_give (by rfl) (g_slen _ _ _ rfl rfl ?_); (try simp only [Act.put, List.setIfInBounds_toArray, List.set_cons_zero, List.set_cons_succ]))
    | ((with_reducible refine at_binD 21 ?_); refine L_give (by rfl) (g_igtr 3 _ _ .i64 _ _ false rfl rfl (decide_eq_false hl) ?_); (try simp only [Act.put, List.setIfInBounds_toArray, List.set_cons_zero, List.set_cons_succ]))
    | (refine stop_list 24 ?_; intro X hX))
  refine hX.out ?_
  clear hX X
  refine L_give (by rfl) (g_call 18 _ _ [.slice ao l.length cap] (kf18 _ _) rfl ((large_any l ao cap w2 hn (hf.below hB)).mono ?_))
  rintro e w3 ⟨rfl | rfl, t_⟩
  · refine ⟨_, rfl, ?_⟩
    replace b_h := b_h.below t_ b_h.lt
    replace hB := hB.trans (t_.mono hB.size)
    clear t_
    (try simp only [Act.put, List.setIfInBounds_toArray, List.set_cons_zero, List.set_cons_succ])
    go_wp2
    go_ret
    exact ⟨rfl, hB⟩
  · refine ⟨_, rfl, ?_⟩
    replace b_h := b_h.below t_ b_h.lt
    replace hB := hB.trans (t_.mono hB.size)
    clear t_
    (try simp only [Act.put, List.setIfInBounds_toArray, List.set_cons_zero, List.set_cons_succ])
    go_wp2_with (first
      | ((with_reducible refine at_loadD 27 26 ?_); refine L_give (by rfl) (g_load_all 26 _ (w.heap.size) (hc (h)) 26 _ rfl (b_h) Try.underlying26 rfl (szH hz) ?_); (try simp only [Act.put, List.setIfInBounds_toArray, List.set_cons_zero, List.set_cons_succ]))
      | ((with_reducible refine at_callD 29 ?_); refine L_give (by rfl) (g_call 21 _ _ [.agg (hc (h)).toArray, .slice ao l.length cap] (kf21 _ _) rfl ((hwrite_any h l ao cap w3 hi hn (hf.below hB) T 0 hW).mono ?_)); rintro e w4 ⟨rfl, t_⟩; refine ⟨_, rfl, ?_⟩; replace b_h := b_h.below t_ b_h.lt; replace hB := hB.trans (t_.mono hB.size); clear t_; (try simp only [Act.put, List.setIfInBounds_toArray, List.set_cons_zero, List.set_cons_succ]))
      | ((with_reducible refine at_binD 33 ?_); refine L_give (by rfl) (g_ieq 28 _ _ .i64 _ _ true rfl rfl (by decide) ?_); (try simp only [Act.put, List.setIfInBounds_toArray, List.set_cons_zero, List.set_cons_succ]))
      | ((with_reducible refine at_callD 36 ?_); refine L_give (by rfl) (g_call 19 _ _ [.string (T)] (kf19 _ _) rfl ((hread_s T h l 0 w4 (by omega) hR).mono ?_)); rintro e w5 ⟨ao1, cap1, rfl, p_m, t_⟩; refine ⟨_, rfl, ?_⟩; replace b_h := b_h.below t_ b_h.lt; replace hB := hB.trans (t_.mono hB.size); clear t_; have hA1 : Below w5.heap.size w5 w5 := Below.refl _ _; (try simp only [Act.put, List.setIfInBounds_toArray, List.set_cons_zero, List.set_cons_succ]))
      | ((with_reducible refine at_allocD 9 26 ?_); refine L_alloc 26 (hc (hz)) zeroH ?_; intro w6 t_ b_g; have o_h_g := b_h.lt; have l_hB_g : _ ≤ w5.heap.size := hB.size; have l_hA1_g : _ ≤ w5.heap.size := hA1.size; replace b_h := t_.blk b_h (Nat.ne_of_lt b_h.lt); replace hB := t_.below hB l_hB_g; replace hA1 := t_.below hA1 l_hA1_g; clear t_; (try simp only [Act.put, List.setIfInBounds_toArray, List.set_cons_zero, List.set_cons_succ]))
      | ((with_reducible refine at_storeX 9 26 ?_); refine L_store_all 26 _ _ (w5.heap.size) (hc (h)) _ 26 rfl rfl b_g (szH hz) rfl (one_hc _) ?_; clear b_g; intro w7 t_ b_g; replace b_h := t_.blk b_h (Nat.ne_of_lt o_h_g); replace hB := t_.below hB l_hB_g; replace hA1 := t_.below hA1 l_hA1_g; clear t_)
      | ((with_reducible refine at_loadD 40 26 ?_); refine L_give (by rfl) (g_load_all 26 _ (w5.heap.size) (hc (h)) 26 _ rfl (b_g) Try.underlying26 rfl (szH hz) ?_); (try simp only [Act.put, List.setIfInBounds_toArray, List.set_cons_zero, List.set_cons_succ]))
      | ((with_reducible refine at_loadD 41 26 ?_); refine L_give (by rfl) (g_load_all 26 _ (w.heap.size) (hc (h)) 26 _ rfl (b_h) Try.underlying26 rfl (szH hz) ?_); (try simp only [Act.put, List.setIfInBounds_toArray, List.set_cons_zero, List.set_cons_succ]))
      | ((with_reducible refine at_binD 42 ?_); refine L_give (by rfl) (g_neqH _ _ (h) rfl rfl ?_); (try simp only [Act.put, List.setIfInBounds_toArray, List.set_cons_zero, List.set_cons_succ]))
      | ((with_reducible refine at_callD 46 ?_); refine L_give (by rfl) (g_call 23 _ _ [.slice ao1 l.length cap1, .slice ao l.length cap] (kf23 _ _) rfl ((same_any l ao1 ao cap1 cap w7 hn (p_m.below hA1) (hf.below hB)).mono ?_)); rintro e w8 ⟨rfl, t_⟩; refine ⟨_, rfl, ?_⟩; replace b_h := b_h.below t_ b_h.lt; replace b_g := b_g.below t_ b_g.lt; replace hB := hB.trans (t_.mono hB.size); replace hA1 := hA1.trans (t_.mono hA1.size); clear t_; (try simp only [Act.put, List.setIfInBounds_toArray, List.set_cons_zero, List.set_cons_succ]))
      | ((with_reducible refine at_binD 51 ?_); refine L_give (by rfl) (g_ine 28 _ _ .i64 _ _ false rfl rfl (by decide) ?_); (try simp only [Act.put, List.setIfInBounds_toArray, List.set_cons_zero, List.set_cons_succ]))
      | ((with_reducible refine at_callD 55 ?_); refine L_give (by rfl) (g_slen _ _ _ rfl rfl ?_); (try simp only [Act.put, List.setIfInBounds_toArray, List.set_cons_zero, List.set_cons_succ]))
      | ((with_reducible refine at_binD 56 ?_); refine L_give (by rfl) (g_irem 3 _ _ .i64 _ _ 0 rfl rfl (by decide) h4.out ?_); (try simp only [Act.put, List.setIfInBounds_toArray, List.set_cons_zero, List.set_cons_succ]))
      | ((with_reducible refine at_binD 57 ?_); refine L_give (by rfl) (g_ine 3 _ _ .i64 _ _ false rfl rfl (by decide) ?_); (try simp only [Act.put, List.setIfInBounds_toArray, List.set_cons_zero, List.set_cons_succ]))
      | ((with_reducible refine at_callD 63 ?_); refine L_give (by rfl) (g_call 19 _ _ [.string (s)] (kf19 _ _) rfl ((hread_s s hz [] F w8 (by omega) hR2).mono ?_)); rintro e w9 ⟨ao2, cap2, rfl, p_q, t_⟩; refine ⟨_, rfl, ?_⟩; replace b_h := b_h.below t_ b_h.lt; replace b_g := b_g.below t_ b_g.lt; replace hB := hB.trans (t_.mono hB.size); replace hA1 := hA1.trans (t_.mono hA1.size); clear t_; have hA2 : Below w9.heap.size w9 w9 := Below.refl _ _; (try simp only [Act.put, List.setIfInBounds_toArray, List.set_cons_zero, List.set_cons_succ]))
      | ((with_reducible refine at_allocD 12 26 ?_); refine L_alloc 26 (hc (hz)) zeroH ?_; intro w10 t_ b_k; have o_h_k := b_h.lt; have o_g_k := b_g.lt; have l_hB_k : _ ≤ w9.heap.size := hB.size; have l_hA1_k : _ ≤ w9.heap.size := hA1.size; have l_hA2_k : _ ≤ w9.heap.size := hA2.size; replace b_h := t_.blk b_h (Nat.ne_of_lt b_h.lt); replace b_g := t_.blk b_g (Nat.ne_of_lt b_g.lt); replace hB := t_.below hB l_hB_k; replace hA1 := t_.below hA1 l_hA1_k; replace hA2 := t_.below hA2 l_hA2_k; clear t_; (try simp only [Act.put, List.setIfInBounds_toArray, List.set_cons_zero, List.set_cons_succ]))
      | ((with_reducible refine at_storeX 12 26 ?_); refine L_store_all 26 _ _ (w9.heap.size) (hc (hz)) _ 26 rfl rfl b_k (szH hz) rfl (one_hc _) ?_; clear b_k; intro w11 t_ b_k; replace b_h := t_.blk b_h (Nat.ne_of_lt o_h_k); replace b_g := t_.blk b_g (Nat.ne_of_lt o_g_k); replace hB := t_.below hB l_hB_k; replace hA1 := t_.below hA1 l_hA1_k; replace hA2 := t_.below hA2 l_hA2_k; clear t_)
      | ((with_reducible refine at_binD 68 ?_); refine L_give (by rfl) (g_ine 28 _ _ .i64 _ _ true rfl rfl (decide_eq_true hF) ?_); (try simp only [Act.put, List.setIfInBounds_toArray, List.set_cons_zero, List.set_cons_succ]))
      | ((with_reducible refine at_loadD 69 26 ?_); refine L_give (by rfl) (g_load_all 26 _ (w9.heap.size) (hc (hz)) 26 _ rfl (b_k) Try.underlying26 rfl (szH hz) ?_); (try simp only [Act.put, List.setIfInBounds_toArray, List.set_cons_zero, List.set_cons_succ]))
      | ((with_reducible refine at_bld 70 ?_); refine L_give (by rfl) (g_bldH0 ?_); (try simp only [Act.put, List.setIfInBounds_toArray, List.set_cons_zero, List.set_cons_succ]))
      | ((with_reducible refine at_binD 71 ?_); refine L_give (by rfl) (g_eqlH _ _ (hz) rfl rfl ?_); (try simp only [Act.put, List.setIfInBounds_toArray, List.set_cons_zero, List.set_cons_succ]))
      | ((with_reducible refine at_callD 74 ?_); refine L_give (by rfl) (g_fllen _ _ _ _ rfl ?_); (try simp only [Act.put, List.setIfInBounds_toArray, List.set_cons_zero, List.set_cons_succ]))
      | ((with_reducible refine at_binD 75 ?_); refine L_give (by rfl) (g_ieq 3 _ _ .i64 _ _ true rfl rfl (decide_eq_true rfl) ?_); (try simp only [Act.put, List.setIfInBounds_toArray, List.set_cons_zero, List.set_cons_succ])))
    go_ret
    exact ⟨rfl, hB⟩
set_option maxRecDepth 10000 in
set_option maxHeartbeats 4000000 in
theorem walk2_10 (h : Hd) (l : List (Int × ByteArray)) (ao : Option Addr) (cap : Nat) (s : ByteArray) (w : World) (hi : InH h) (hn : l.length ≤ 140737488355328) (hf : Fis w (.slice ao l.length cap) l) (hcap : l.length ≤ cap) (hl : ¬ (2048 : Int) < (s.size : Int)) (E : Int) (hE : ¬ E = 0) (hW : Hid (wr h l = (ByteArray.empty, E))) (G : Hd) (m : List (Int × ByteArray)) (hiG : InH G) (hm : m.length ≤ 140737488355328) (hR2 : Hid (rdp s = (G, m, 0))) (hW2 : Hid (wr G m = (s, 0))) : Calls Try.prog 6 #[.agg (hc h).toArray, .slice ao l.length cap, .string s] w fun e w' => e = .returned (.bool true) ∧ Below w.heap.size w w' := by
  go_enter Try.func6, Try.ntmps6
  go_wp2_with (first
    | ((with_reducible refine at_boxD 3 26 ?_); refine L_box 26 _ (hc (h)) rfl ?_; intro w1 t_ b_h; have l_hB_h : w.heap.size ≤ w.heap.size := Nat.le_refl _; have hB : Below w.heap.size w w1 := t_.below (Below.refl _ _) (Nat.le_refl _); clear t_; (try simp only [Act.put, List.setIfInBounds_toArray, List.set_cons_zero, List.set_cons_succ]))
    | ((with_reducible refine at_callD 17 ?_); refine L_give (by rfl) (g_call 11 _ _ [] (kf11 _ _) rfl ((awake_any w1).mono ?_)); rintro e w2 ⟨rfl, t_⟩; refine ⟨_, rfl, ?_⟩; replace b_h := b_h.below t_ b_h.lt; replace hB := hB.trans (t_.mono hB.size); clear t_; (try simp only [Act.put, List.setIfInBounds_toArray, List.set_cons_zero, List.set_cons_succ]))
    | ((with_reducible refine at_callD 20 ?_); refine L_give (by rfl) (g_slen _ _ _ rfl rfl ?_); (try simp only [Act.put, List.setIfInBounds_toArray, List.set_cons_zero, List.set_cons_succ]))
    | ((with_reducible refine at_binD 21 ?_); refine L_give (by rfl) (g_igtr 3 _ _ .i64 _ _ false rfl rfl (decide_eq_false hl) ?_); (try simp only [Act.put, List.setIfInBounds_toArray, List.set_cons_zero, List.set_cons_succ]))
    | (refine stop_list 24 ?_; intro X hX))
  refine hX.out ?_
  clear hX X
  refine L_give (by rfl) (g_call 18 _ _ [.slice ao l.length cap] (kf18 _ _) rfl ((large_any l ao cap w2 hn (hf.below hB)).mono ?_))
  rintro e w3 ⟨rfl | rfl, t_⟩
  · refine ⟨_, rfl, ?_⟩
    replace b_h := b_h.below t_ b_h.lt
    replace hB := hB.trans (t_.mono hB.size)
    clear t_
    (try simp only [Act.put, List.setIfInBounds_toArray, List.set_cons_zero, List.set_cons_succ])
    go_wp2
    go_ret
    exact ⟨rfl, hB⟩
  · refine ⟨_, rfl, ?_⟩
    replace b_h := b_h.below t_ b_h.lt
    replace hB := hB.trans (t_.mono hB.size)
    clear t_
    (try simp only [Act.put, List.setIfInBounds_toArray, List.set_cons_zero, List.set_cons_succ])
    go_wp2_with (first
      | ((with_reducible refine at_loadD 27 26 ?_); refine L_give (by rfl) (g_load_all 26 _ (w.heap.size) (hc (h)) 26 _ rfl (b_h) Try.underlying26 rfl (szH hz) ?_); (try simp only [Act.put, List.setIfInBounds_toArray, List.set_cons_zero, List.set_cons_succ]))
      | ((with_reducible refine at_callD 29 ?_); refine L_give (by rfl) (g_call 21 _ _ [.agg (hc (h)).toArray, .slice ao l.length cap] (kf21 _ _) rfl ((hwrite_any h l ao cap w3 hi hn (hf.below hB) ByteArray.empty E hW).mono ?_)); rintro e w4 ⟨rfl, t_⟩; refine ⟨_, rfl, ?_⟩; replace b_h := b_h.below t_ b_h.lt; replace hB := hB.trans (t_.mono hB.size); clear t_; (try simp only [Act.put, List.setIfInBounds_toArray, List.set_cons_zero, List.set_cons_succ]))
      | ((with_reducible refine at_binD 33 ?_); refine L_give (by rfl) (g_ieq 28 _ _ .i64 _ _ false rfl rfl (decide_eq_false hE) ?_); (try simp only [Act.put, List.setIfInBounds_toArray, List.set_cons_zero, List.set_cons_succ]))
      | ((with_reducible refine at_binD 60 ?_); refine L_give (by rfl) (g_sneq 9 _ _ (ByteArray.empty) (⟨#[]⟩) true rfl rfl (decide_eq_true rfl) ?_); (try simp only [Act.put, List.setIfInBounds_toArray, List.set_cons_zero, List.set_cons_succ]))
      | ((with_reducible refine at_callD 63 ?_); refine L_give (by rfl) (g_call 19 _ _ [.string (s)] (kf19 _ _) rfl ((hread_s s G m 0 w4 (by omega) hR2).mono ?_)); rintro e w5 ⟨ao2, cap2, rfl, p_q, t_⟩; refine ⟨_, rfl, ?_⟩; replace b_h := b_h.below t_ b_h.lt; replace hB := hB.trans (t_.mono hB.size); clear t_; have hA1 : Below w5.heap.size w5 w5 := Below.refl _ _; (try simp only [Act.put, List.setIfInBounds_toArray, List.set_cons_zero, List.set_cons_succ]))
      | ((with_reducible refine at_allocD 12 26 ?_); refine L_alloc 26 (hc (hz)) zeroH ?_; intro w6 t_ b_k; have o_h_k := b_h.lt; have l_hB_k : _ ≤ w5.heap.size := hB.size; have l_hA1_k : _ ≤ w5.heap.size := hA1.size; replace b_h := t_.blk b_h (Nat.ne_of_lt b_h.lt); replace hB := t_.below hB l_hB_k; replace hA1 := t_.below hA1 l_hA1_k; clear t_; (try simp only [Act.put, List.setIfInBounds_toArray, List.set_cons_zero, List.set_cons_succ]))
      | ((with_reducible refine at_storeX 12 26 ?_); refine L_store_all 26 _ _ (w5.heap.size) (hc (G)) _ 26 rfl rfl b_k (szH hz) rfl (one_hc _) ?_; clear b_k; intro w7 t_ b_k; replace b_h := t_.blk b_h (Nat.ne_of_lt o_h_k); replace hB := t_.below hB l_hB_k; replace hA1 := t_.below hA1 l_hA1_k; clear t_)
      | ((with_reducible refine at_binD 68 ?_); refine L_give (by rfl) (g_ine 28 _ _ .i64 _ _ false rfl rfl (by decide) ?_); (try simp only [Act.put, List.setIfInBounds_toArray, List.set_cons_zero, List.set_cons_succ]))
      | ((with_reducible refine at_loadD 78 26 ?_); refine L_give (by rfl) (g_load_all 26 _ (w5.heap.size) (hc (G)) 26 _ rfl (b_k) Try.underlying26 rfl (szH hz) ?_); (try simp only [Act.put, List.setIfInBounds_toArray, List.set_cons_zero, List.set_cons_succ]))
      | ((with_reducible refine at_callD 80 ?_); refine L_give (by rfl) (g_call 21 _ _ [.agg (hc (G)).toArray, .slice ao2 m.length cap2] (kf21 _ _) rfl ((hwrite_any G m ao2 cap2 w7 hiG hm (p_q.below hA1) s 0 hW2).mono ?_)); rintro e w8 ⟨rfl, t_⟩; refine ⟨_, rfl, ?_⟩; replace b_h := b_h.below t_ b_h.lt; replace b_k := b_k.below t_ b_k.lt; replace hB := hB.trans (t_.mono hB.size); replace hA1 := hA1.trans (t_.mono hA1.size); clear t_; (try simp only [Act.put, List.setIfInBounds_toArray, List.set_cons_zero, List.set_cons_succ]))
      | ((with_reducible refine at_binD 84 ?_); refine L_give (by rfl) (g_ieq 28 _ _ .i64 _ _ true rfl rfl (by decide) ?_); (try simp only [Act.put, List.setIfInBounds_toArray, List.set_cons_zero, List.set_cons_succ]))
      | ((with_reducible refine at_binD 88 ?_); refine L_give (by rfl) (g_seql 9 _ _ (s) (s) true rfl rfl (decide_eq_true rfl) ?_); (try simp only [Act.put, List.setIfInBounds_toArray, List.set_cons_zero, List.set_cons_succ])))
    go_ret
    exact ⟨rfl, hB⟩
set_option maxRecDepth 10000 in
set_option maxHeartbeats 4000000 in
theorem walk2_11 (h : Hd) (l : List (Int × ByteArray)) (ao : Option Addr) (cap : Nat) (s : ByteArray) (w : World) (hi : InH h) (hn : l.length ≤ 140737488355328) (hf : Fis w (.slice ao l.length cap) l) (hcap : l.length ≤ cap) (hl : ¬ (2048 : Int) < (s.size : Int)) (E : Int) (hE : ¬ E = 0) (hW : Hid (wr h l = (ByteArray.empty, E))) (F : Int) (hF : F ≠ 0) (hR2 : Hid (rdp s = (hz, [], F))) : Calls Try.prog 6 #[.agg (hc h).toArray, .slice ao l.length cap, .string s] w fun e w' => e = .returned (.bool true) ∧ Below w.heap.size w w' := by
  go_enter Try.func6, Try.ntmps6
  go_wp2_with (first
    | ((with_reducible refine at_boxD 3 26 ?_); refine L_box 26 _ (hc (h)) rfl ?_; intro w1 t_ b_h; have l_hB_h : w.heap.size ≤ w.heap.size := Nat.le_refl _; have hB : Below w.heap.size w w1 := t_.below (Below.refl _ _) (Nat.le_refl _); clear t_; (try simp only [Act.put, List.setIfInBounds_toArray, List.set_cons_zero, List.set_cons_succ]))
    | ((with_reducible refine at_callD 17 ?_); refine L_give (by rfl) (g_call 11 _ _ [] (kf11 _ _) rfl ((awake_any w1).mono ?_)); rintro e w2 ⟨rfl, t_⟩; refine ⟨_, rfl, ?_⟩; replace b_h := b_h.below t_ b_h.lt; replace hB := hB.trans (t_.mono hB.size); clear t_; (try simp only [Act.put, List.setIfInBounds_toArray, List.set_cons_zero, List.set_cons_succ]))
    | ((with_reducible refine at_callD 20 ?_); refine L_give (by rfl) (g_slen _ _ _ rfl rfl ?_); (try simp only [Act.put, List.setIfInBounds_toArray, List.set_cons_zero, List.set_cons_succ]))
    | ((with_reducible refine at_binD 21 ?_); refine L_give (by rfl) (g_igtr 3 _ _ .i64 _ _ false rfl rfl (decide_eq_false hl) ?_); (try simp only [Act.put, List.setIfInBounds_toArray, List.set_cons_zero, List.set_cons_succ]))
    | (refine stop_list 24 ?_; intro X hX))
  refine hX.out ?_
  clear hX X
  refine L_give (by rfl) (g_call 18 _ _ [.slice ao l.length cap] (kf18 _ _) rfl ((large_any l ao cap w2 hn (hf.below hB)).mono ?_))
  rintro e w3 ⟨rfl | rfl, t_⟩
  · refine ⟨_, rfl, ?_⟩
    replace b_h := b_h.below t_ b_h.lt
    replace hB := hB.trans (t_.mono hB.size)
    clear t_
    (try simp only [Act.put, List.setIfInBounds_toArray, List.set_cons_zero, List.set_cons_succ])
    go_wp2
    go_ret
    exact ⟨rfl, hB⟩
  · refine ⟨_, rfl, ?_⟩
    replace b_h := b_h.below t_ b_h.lt
    replace hB := hB.trans (t_.mono hB.size)
    clear t_
    (try simp only [Act.put, List.setIfInBounds_toArray, List.set_cons_zero, List.set_cons_succ])
    go_wp2_with (first
      | ((with_reducible refine at_loadD 27 26 ?_); refine L_give (by rfl) (g_load_all 26 _ (w.heap.size) (hc (h)) 26 _ rfl (b_h) Try.underlying26 rfl (szH hz) ?_); (try simp only [Act.put, List.setIfInBounds_toArray, List.set_cons_zero, List.set_cons_succ]))
      | ((with_reducible refine at_callD 29 ?_); refine L_give (by rfl) (g_call 21 _ _ [.agg (hc (h)).toArray, .slice ao l.length cap] (kf21 _ _) rfl ((hwrite_any h l ao cap w3 hi hn (hf.below hB) ByteArray.empty E hW).mono ?_)); rintro e w4 ⟨rfl, t_⟩; refine ⟨_, rfl, ?_⟩; replace b_h := b_h.below t_ b_h.lt; replace hB := hB.trans (t_.mono hB.size); clear t_; (try simp only [Act.put, List.setIfInBounds_toArray, List.set_cons_zero, List.set_cons_succ]))
      | ((with_reducible refine at_binD 33 ?_); refine L_give (by rfl) (g_ieq 28 _ _ .i64 _ _ false rfl rfl (decide_eq_false hE) ?_); (try simp only [Act.put, List.setIfInBounds_toArray, List.set_cons_zero, List.set_cons_succ]))
      | ((with_reducible refine at_binD 60 ?_); refine L_give (by rfl) (g_sneq 9 _ _ (ByteArray.empty) (⟨#[]⟩) true rfl rfl (decide_eq_true rfl) ?_); (try simp only [Act.put, List.setIfInBounds_toArray, List.set_cons_zero, List.set_cons_succ]))
      | ((with_reducible refine at_callD 63 ?_); refine L_give (by rfl) (g_call 19 _ _ [.string (s)] (kf19 _ _) rfl ((hread_s s hz [] F w4 (by omega) hR2).mono ?_)); rintro e w5 ⟨ao2, cap2, rfl, p_q, t_⟩; refine ⟨_, rfl, ?_⟩; replace b_h := b_h.below t_ b_h.lt; replace hB := hB.trans (t_.mono hB.size); clear t_; have hA1 : Below w5.heap.size w5 w5 := Below.refl _ _; (try simp only [Act.put, List.setIfInBounds_toArray, List.set_cons_zero, List.set_cons_succ]))
      | ((with_reducible refine at_allocD 12 26 ?_); refine L_alloc 26 (hc (hz)) zeroH ?_; intro w6 t_ b_k; have o_h_k := b_h.lt; have l_hB_k : _ ≤ w5.heap.size := hB.size; have l_hA1_k : _ ≤ w5.heap.size := hA1.size; replace b_h := t_.blk b_h (Nat.ne_of_lt b_h.lt); replace hB := t_.below hB l_hB_k; replace hA1 := t_.below hA1 l_hA1_k; clear t_; (try simp only [Act.put, List.setIfInBounds_toArray, List.set_cons_zero, List.set_cons_succ]))
      | ((with_reducible refine at_storeX 12 26 ?_); refine L_store_all 26 _ _ (w5.heap.size) (hc (hz)) _ 26 rfl rfl b_k (szH hz) rfl (one_hc _) ?_; clear b_k; intro w7 t_ b_k; replace b_h := t_.blk b_h (Nat.ne_of_lt o_h_k); replace hB := t_.below hB l_hB_k; replace hA1 := t_.below hA1 l_hA1_k; clear t_)
      | ((with_reducible refine at_binD 68 ?_); refine L_give (by rfl) (g_ine 28 _ _ .i64 _ _ true rfl rfl (decide_eq_true hF) ?_); (try simp only [Act.put, List.setIfInBounds_toArray, List.set_cons_zero, List.set_cons_succ]))
      | ((with_reducible refine at_loadD 69 26 ?_); refine L_give (by rfl) (g_load_all 26 _ (w5.heap.size) (hc (hz)) 26 _ rfl (b_k) Try.underlying26 rfl (szH hz) ?_); (try simp only [Act.put, List.setIfInBounds_toArray, List.set_cons_zero, List.set_cons_succ]))
      | ((with_reducible refine at_bld 70 ?_); refine L_give (by rfl) (g_bldH0 ?_); (try simp only [Act.put, List.setIfInBounds_toArray, List.set_cons_zero, List.set_cons_succ]))
      | ((with_reducible refine at_binD 71 ?_); refine L_give (by rfl) (g_eqlH _ _ (hz) rfl rfl ?_); (try simp only [Act.put, List.setIfInBounds_toArray, List.set_cons_zero, List.set_cons_succ]))
      | ((with_reducible refine at_callD 74 ?_); refine L_give (by rfl) (g_fllen _ _ _ _ rfl ?_); (try simp only [Act.put, List.setIfInBounds_toArray, List.set_cons_zero, List.set_cons_succ]))
      | ((with_reducible refine at_binD 75 ?_); refine L_give (by rfl) (g_ieq 3 _ _ .i64 _ _ true rfl rfl (decide_eq_true rfl) ?_); (try simp only [Act.put, List.setIfInBounds_toArray, List.set_cons_zero, List.set_cons_succ])))
    go_ret
    exact ⟨rfl, hB⟩
theorem len4 (h : Hd) (l : List (Int × ByteArray)) : (hb h ++ l.flatMap fb).length % 4 = 0 := by
  have k : ∀ l : List (Int × ByteArray), (l.flatMap fb).length % 4 = 0 := by
    intro l
    induction l with
    | nil => rfl
    | cons f l ih => have := fb_len f; rw [List.flatMap_cons, List.length_append]; omega
  have := k l
  rw [List.length_append, hb_length]; omega
theorem walk (h : Hd) (l : List (Int × ByteArray)) (ao : Option Addr) (cap : Nat) (s : ByteArray) (w : World) (hi : InH h) (hn : l.length ≤ 140737488355328) (hf : Fis w (.slice ao l.length cap) l) (hcap : l.length ≤ cap) : Calls Try.prog 6 #[.agg (hc h).toArray, .slice ao l.length cap, .string s] w fun e w' => e = .returned (.bool true) ∧ Below w.heap.size w w' := by
  by_cases hl : (2048 : Int) < (s.size : Int)
  · exact walk1 h l ao cap s w hi hn hf hcap hl
  · obtain ⟨T, E, hW⟩ : ∃ T E, wr h l = (T, E) := ⟨_, _, rfl⟩
    obtain ⟨G, m, F, hR⟩ : ∃ G m F, rdp s = (G, m, F) := ⟨_, _, _, rfl⟩
    by_cases hE : E = 0
    · subst hE
      obtain ⟨a, b, c, d⟩ := wr_ok h l T hW
      have zl := Lib.size_eq T
      have l4 := len4 h l
      have le := flat_le l b
      rw [d] at zl
      have zl2 : T.size = 48 + (l.flatMap fb).length := by rw [zl, List.length_append, hb_length]
      have h4 : ((T.size : Nat) : Int).tmod 4 = 0 := by rw [Int.tmod_eq_emod_of_nonneg (by omega)]; omega
      by_cases hF : F = 0
      · subst hF
        obtain ⟨e, f, g, _⟩ := rd_ok s G m hR
        exact walk2_00 h l ao cap s w hi hn hf hcap hl T (by omega) h4 hW (rd_wb h l T a hi b c d) G m f (by omega) hR e
      · obtain ⟨rfl, rfl⟩ := rd_bad s G m F hR hF
        exact walk2_01 h l ao cap s w hi hn hf hcap hl T (by omega) h4 hW (rd_wb h l T a hi b c d) F hF hR
    · obtain rfl := wr_bad h l T E hW hE
      by_cases hF : F = 0
      · subst hF
        obtain ⟨e, f, g, _⟩ := rd_ok s G m hR
        exact walk2_10 h l ao cap s w hi hn hf hcap hl E hE hW G m f (by omega) hR e
      · obtain ⟨rfl, rfl⟩ := rd_bad s G m F hR hF
        exact walk2_11 h l ao cap s w hi hn hf hcap hl E hE hW F hF hR
end Go.Proofs.Yteieacamokoejaa.headPackets
