/- HeadReads: the walk. -/
import Derived.Test.YteieacamokoejaaLawB
namespace Go.Proofs.Yteieacamokoejaa.headReads
open Go Go.RowKit
set_option linter.unusedVariables false
set_option linter.unusedSimpArgs false

set_option maxRecDepth 10000 in
set_option maxHeartbeats 4000000 in
theorem walk1 (s : ByteArray) (h : Hd) (l : List (Int × ByteArray)) (ao : Option Addr) (cap : Nat) (w : World) (hi : InH h) (hn : l.length ≤ 140737488355328) (hf : Fis w (.slice ao l.length cap) l) (hcap : l.length ≤ cap) (hl : (2048 : Int) < (s.size : Int)) : Calls Try.prog 4 #[.string s, .agg (hc h).toArray, .slice ao l.length cap] w fun e w' => e = .returned (.bool true) ∧ Below w.heap.size w w' := by
  go_enter Try.func4, Try.ntmps4
  go_wp2_with (first
    | ((with_reducible refine at_boxD 4 26 ?_); refine L_box 26 _ (hc (h)) rfl ?_; intro w1 t_ b_h; have l_hB_h : w.heap.size ≤ w.heap.size := Nat.le_refl _; have hB : Below w.heap.size w w1 := t_.below (Below.refl _ _) (Nat.le_refl _); clear t_; (try simp only [Act.put, List.setIfInBounds_toArray, List.set_cons_zero, List.set_cons_succ]))
    | ((with_reducible refine at_callD 17 ?_); refine L_give (by rfl) (g_call 11 _ _ [] (kf11 _ _) rfl ((awake_any w1).mono ?_)); rintro e w2 ⟨rfl, t_⟩; refine ⟨_, rfl, ?_⟩; replace b_h := b_h.below t_ b_h.lt; replace hB := hB.trans (t_.mono hB.size); clear t_; (try simp only [Act.put, List.setIfInBounds_toArray, List.set_cons_zero, List.set_cons_succ]))
    | ((with_reducible refine at_callD 20 ?_); refine L_give (by rfl) (g_slen _ _ _ rfl rfl ?_); (try simp only [Act.put, List.setIfInBounds_toArray, List.set_cons_zero, List.set_cons_succ]))
    | ((with_reducible refine at_binD 21 ?_); refine L_give (by rfl) (g_igtr 3 _ _ .i64 _ _ true rfl rfl (decide_eq_true hl) ?_); (try simp only [Act.put, List.setIfInBounds_toArray, List.set_cons_zero, List.set_cons_succ])))
  go_ret
  exact ⟨rfl, hB⟩
set_option maxRecDepth 10000 in
set_option maxHeartbeats 4000000 in
theorem walk2 (s : ByteArray) (h : Hd) (l : List (Int × ByteArray)) (ao : Option Addr) (cap : Nat) (w : World) (hi : InH h) (hn : l.length ≤ 140737488355328) (hf : Fis w (.slice ao l.length cap) l) (hcap : l.length ≤ cap) (G : Hd) (m : List (Int × ByteArray)) (E : Int) (T : ByteArray) (F : Int) (hl : ¬ (2048 : Int) < (s.size : Int)) (hR : Hid (rdp s = (G, m, E))) (hm : m.length ≤ 140737488355328) (hW : Hid (wr h l = (T, F))) : Calls Try.prog 4 #[.string s, .agg (hc h).toArray, .slice ao l.length cap] w fun e w' => e = .returned (.bool true) ∧ Below w.heap.size w w' := by
  go_enter Try.func4, Try.ntmps4
  go_wp2_with (first
    | ((with_reducible refine at_boxD 4 26 ?_); refine L_box 26 _ (hc (h)) rfl ?_; intro w1 t_ b_h; have l_hB_h : w.heap.size ≤ w.heap.size := Nat.le_refl _; have hB : Below w.heap.size w w1 := t_.below (Below.refl _ _) (Nat.le_refl _); clear t_; (try simp only [Act.put, List.setIfInBounds_toArray, List.set_cons_zero, List.set_cons_succ]))
    | ((with_reducible refine at_callD 17 ?_); refine L_give (by rfl) (g_call 11 _ _ [] (kf11 _ _) rfl ((awake_any w1).mono ?_)); rintro e w2 ⟨rfl, t_⟩; refine ⟨_, rfl, ?_⟩; replace b_h := b_h.below t_ b_h.lt; replace hB := hB.trans (t_.mono hB.size); clear t_; (try simp only [Act.put, List.setIfInBounds_toArray, List.set_cons_zero, List.set_cons_succ]))
    | ((with_reducible refine at_callD 20 ?_); refine L_give (by rfl) (g_slen _ _ _ rfl rfl ?_); (try simp only [Act.put, List.setIfInBounds_toArray, List.set_cons_zero, List.set_cons_succ]))
    | ((with_reducible refine at_binD 21 ?_); refine L_give (by rfl) (g_igtr 3 _ _ .i64 _ _ false rfl rfl (decide_eq_false hl) ?_); (try simp only [Act.put, List.setIfInBounds_toArray, List.set_cons_zero, List.set_cons_succ]))
    | (refine stop_list 24 ?_; intro X hX))
  refine hX.out ?_
  clear hX X
  refine L_give (by rfl) (g_call 18 _ _ [.slice ao l.length cap] (kf18 _ _) rfl ((large_any l ao cap w2 hn (hf.below hB)).mono ?_))
  rintro e w3 ⟨rfl | rfl, t_⟩
  · refine ⟨_, rfl, ?_⟩
    replace b_h := b_h.below t_ b_h.lt
    replace hB := hB.trans (t_.mono hB.size)
    clear t_
    (try simp only [Act.put, List.setIfInBounds_toArray, List.set_cons_zero, List.set_cons_succ])
    go_wp2
    go_ret
    exact ⟨rfl, hB⟩
  · refine ⟨_, rfl, ?_⟩
    replace b_h := b_h.below t_ b_h.lt
    replace hB := hB.trans (t_.mono hB.size)
    clear t_
    (try simp only [Act.put, List.setIfInBounds_toArray, List.set_cons_zero, List.set_cons_succ])
    go_wp2_with (first
      | ((with_reducible refine at_callD 28 ?_); refine L_give (by rfl) (g_call 19 _ _ [.string (s)] (kf19 _ _) rfl ((hread_s s G m E w3 (by omega) hR).mono ?_)); rintro e w4 ⟨ao1, cap1, rfl, p_m, t_⟩; refine ⟨_, rfl, ?_⟩; replace b_h := b_h.below t_ b_h.lt; replace hB := hB.trans (t_.mono hB.size); clear t_; have hA1 : Below w4.heap.size w4 w4 := Below.refl _ _; (try simp only [Act.put, List.setIfInBounds_toArray, List.set_cons_zero, List.set_cons_succ]))
      | ((with_reducible refine at_allocD 7 26 ?_); refine L_alloc 26 (hc (hz)) zeroH ?_; intro w5 t_ b_g; have o_h_g := b_h.lt; have l_hB_g : _ ≤ w4.heap.size := hB.size; have l_hA1_g : _ ≤ w4.heap.size := hA1.size; replace b_h := t_.blk b_h (Nat.ne_of_lt b_h.lt); replace hB := t_.below hB l_hB_g; replace hA1 := t_.below hA1 l_hA1_g; clear t_; (try simp only [Act.put, List.setIfInBounds_toArray, List.set_cons_zero, List.set_cons_succ]))
      | ((with_reducible refine at_storeX 7 26 ?_); refine L_store_all 26 _ _ (w4.heap.size) (hc (G)) _ 26 rfl rfl b_g (szH hz) rfl (one_hc _) ?_; clear b_g; intro w6 t_ b_g; replace b_h := t_.blk b_h (Nat.ne_of_lt o_h_g); replace hB := t_.below hB l_hB_g; replace hA1 := t_.below hA1 l_hA1_g; clear t_)
      | ((with_reducible refine at_callD 34 ?_); refine L_give (by rfl) (g_call 20 _ _ [.string (s)] (kf20 _ _) rfl ((rhread_s s G m E w6 (by omega) hR).mono ?_)); rintro e w7 ⟨ao2, cap2, rfl, p_q, t_⟩; refine ⟨_, rfl, ?_⟩; replace b_h := b_h.below t_ b_h.lt; replace b_g := b_g.below t_ b_g.lt; replace hB := hB.trans (t_.mono hB.size); replace hA1 := hA1.trans (t_.mono hA1.size); clear t_; have hA2 : Below w7.heap.size w7 w7 := Below.refl _ _; (try simp only [Act.put, List.setIfInBounds_toArray, List.set_cons_zero, List.set_cons_succ]))
      | ((with_reducible refine at_allocD 10 26 ?_); refine L_alloc 26 (hc (hz)) zeroH ?_; intro w8 t_ b_k; have o_h_k := b_h.lt; have o_g_k := b_g.lt; have l_hB_k : _ ≤ w7.heap.size := hB.size; have l_hA1_k : _ ≤ w7.heap.size := hA1.size; have l_hA2_k : _ ≤ w7.heap.size := hA2.size; replace b_h := t_.blk b_h (Nat.ne_of_lt b_h.lt); replace b_g := t_.blk b_g (Nat.ne_of_lt b_g.lt); replace hB := t_.below hB l_hB_k; replace hA1 := t_.below hA1 l_hA1_k; replace hA2 := t_.below hA2 l_hA2_k; clear t_; (try simp only [Act.put, List.setIfInBounds_toArray, List.set_cons_zero, List.set_cons_succ]))
      | ((with_reducible refine at_storeX 10 26 ?_); refine L_store_all 26 _ _ (w7.heap.size) (hc (G)) _ 26 rfl rfl b_k (szH hz) rfl (one_hc _) ?_; clear b_k; intro w9 t_ b_k; replace b_h := t_.blk b_h (Nat.ne_of_lt o_h_k); replace b_g := t_.blk b_g (Nat.ne_of_lt o_g_k); replace hB := t_.below hB l_hB_k; replace hA1 := t_.below hA1 l_hA1_k; replace hA2 := t_.below hA2 l_hA2_k; clear t_)
      | ((with_reducible refine at_loadD 39 26 ?_); refine L_give (by rfl) (g_load_all 26 _ (w.heap.size) (hc (h)) 26 _ rfl (b_h) Try.underlying26 rfl (szH hz) ?_); (try simp only [Act.put, List.setIfInBounds_toArray, List.set_cons_zero, List.set_cons_succ]))
      | ((with_reducible refine at_callD 41 ?_); refine L_give (by rfl) (g_call 21 _ _ [.agg (hc (h)).toArray, .slice ao l.length cap] (kf21 _ _) rfl ((hwrite_any h l ao cap w9 hi hn (hf.below hB) T F hW).mono ?_)); rintro e w10 ⟨rfl, t_⟩; refine ⟨_, rfl, ?_⟩; replace b_h := b_h.below t_ b_h.lt; replace b_g := b_g.below t_ b_g.lt; replace b_k := b_k.below t_ b_k.lt; replace hB := hB.trans (t_.mono hB.size); replace hA1 := hA1.trans (t_.mono hA1.size); replace hA2 := hA2.trans (t_.mono hA2.size); clear t_; (try simp only [Act.put, List.setIfInBounds_toArray, List.set_cons_zero, List.set_cons_succ]))
      | ((with_reducible refine at_loadD 45 26 ?_); refine L_give (by rfl) (g_load_all 26 _ (w.heap.size) (hc (h)) 26 _ rfl (b_h) Try.underlying26 rfl (szH hz) ?_); (try simp only [Act.put, List.setIfInBounds_toArray, List.set_cons_zero, List.set_cons_succ]))
      | ((with_reducible refine at_callD 47 ?_); refine L_give (by rfl) (g_call 22 _ _ [.agg (hc (h)).toArray, .slice ao l.length cap] (kf22 _ _) rfl ((rhwrite_any h l ao cap w10 hi hn (hf.below hB) T F hW).mono ?_)); rintro e w11 ⟨rfl, t_⟩; refine ⟨_, rfl, ?_⟩; replace b_h := b_h.below t_ b_h.lt; replace b_g := b_g.below t_ b_g.lt; replace b_k := b_k.below t_ b_k.lt; replace hB := hB.trans (t_.mono hB.size); replace hA1 := hA1.trans (t_.mono hA1.size); replace hA2 := hA2.trans (t_.mono hA2.size); clear t_; (try simp only [Act.put, List.setIfInBounds_toArray, List.set_cons_zero, List.set_cons_succ]))
      | ((with_reducible refine at_loadD 50 26 ?_); refine L_give (by rfl) (g_load_all 26 _ (w4.heap.size) (hc (G)) 26 _ rfl (b_g) Try.underlying26 rfl (szH hz) ?_); (try simp only [Act.put, List.setIfInBounds_toArray, List.set_cons_zero, List.set_cons_succ]))
      | ((with_reducible refine at_loadD 51 26 ?_); refine L_give (by rfl) (g_load_all 26 _ (w7.heap.size) (hc (G)) 26 _ rfl (b_k) Try.underlying26 rfl (szH hz) ?_); (try simp only [Act.put, List.setIfInBounds_toArray, List.set_cons_zero, List.set_cons_succ]))
      | ((with_reducible refine at_binD 52 ?_); refine L_give (by rfl) (g_eqlH _ _ (G) rfl rfl ?_); (try simp only [Act.put, List.setIfInBounds_toArray, List.set_cons_zero, List.set_cons_succ]))
      | ((with_reducible refine at_callD 56 ?_); refine L_give (by rfl) (g_call 23 _ _ [.slice ao1 m.length cap1, .slice ao2 m.length cap2] (kf23 _ _) rfl ((same_any m ao1 ao2 cap1 cap2 w11 hm (p_m.below hA1) (p_q.below hA2)).mono ?_)); rintro e w12 ⟨rfl, t_⟩; refine ⟨_, rfl, ?_⟩; replace b_h := b_h.below t_ b_h.lt; replace b_g := b_g.below t_ b_g.lt; replace b_k := b_k.below t_ b_k.lt; replace hB := hB.trans (t_.mono hB.size); replace hA1 := hA1.trans (t_.mono hA1.size); replace hA2 := hA2.trans (t_.mono hA2.size); clear t_; (try simp only [Act.put, List.setIfInBounds_toArray, List.set_cons_zero, List.set_cons_succ]))
      | ((with_reducible refine at_binD 61 ?_); refine L_give (by rfl) (g_ieq 28 _ _ .i64 _ _ true rfl rfl (decide_eq_true rfl) ?_); (try simp only [Act.put, List.setIfInBounds_toArray, List.set_cons_zero, List.set_cons_succ]))
      | ((with_reducible refine at_binD 66 ?_); refine L_give (by rfl) (g_seql 9 _ _ (T) (T) true rfl rfl (decide_eq_true rfl) ?_); (try simp only [Act.put, List.setIfInBounds_toArray, List.set_cons_zero, List.set_cons_succ]))
      | ((with_reducible refine at_binD 71 ?_); refine L_give (by rfl) (g_ieq 28 _ _ .i64 _ _ true rfl rfl (decide_eq_true rfl) ?_); (try simp only [Act.put, List.setIfInBounds_toArray, List.set_cons_zero, List.set_cons_succ])))
    go_ret
    exact ⟨rfl, hB⟩
theorem walk (s : ByteArray) (h : Hd) (l : List (Int × ByteArray)) (ao : Option Addr) (cap : Nat) (w : World) (hi : InH h) (hn : l.length ≤ 140737488355328) (hf : Fis w (.slice ao l.length cap) l) (hcap : l.length ≤ cap) : Calls Try.prog 4 #[.string s, .agg (hc h).toArray, .slice ao l.length cap] w fun e w' => e = .returned (.bool true) ∧ Below w.heap.size w w' := by
  by_cases hl : (2048 : Int) < (s.size : Int)
  · exact walk1 s h l ao cap w hi hn hf hcap hl
  · exact walk2 s h l ao cap w hi hn hf hcap _ _ _ _ _ hl rfl (rd_len s _ _ _ rfl) rfl
end Go.Proofs.Yteieacamokoejaa.headReads
