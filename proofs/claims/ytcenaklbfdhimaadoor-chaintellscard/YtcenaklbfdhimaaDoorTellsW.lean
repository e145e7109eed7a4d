/- ChainTells: the walk. -/
import Derived.Test.YtcenaklbfdhimaaDoorLawS
import Derived.WalkKit
import Derived.WalkSpells
import Derived.WalkLawsBesides
namespace Go.Proofs.YtcenaklbfdhimaaDoor.chainTells
open Go Go.RowKit
set_option linter.unusedVariables false
set_option linter.unusedSimpArgs false

set_option maxRecDepth 10000 in
set_option maxHeartbeats 4000000 in
theorem walk_a (s : Ky) (n i : Int) (w : World) (hT : Tabs w) (h1 : 40 < n) (h2 : n ≤ 1024) : Calls Tryd.prog 3 #[.agg (kc s).toArray, .int .i64 n, .int .i64 i] w fun e w' => e = .returned (.bool true) ∧ Below w.heap.size w w' := by
  go_enter Tryd.func3, Tryd.ntmps3
  (try simp only [List.append_eq, List.cons_append, List.nil_append])
  go_wp2_with (first
    | ((with_reducible refine at_boxD 3 23 ?_); refine L_box 23 _ (kc (s)) rfl ?_; intro w1 t_ b_s; have l_hB_s : w.heap.size ≤ w.heap.size := Nat.le_refl _; have hB : Below w.heap.size w w1 := t_.below (Below.refl _ _) (Nat.le_refl _); clear t_; (try simp only [Act.put, List.setIfInBounds_toArray, List.set_cons_zero, List.set_cons_succ]))
    | ((with_reducible refine at_callD 15 ?_); refine L_give (by rfl) (g_call 9 _ _ [] (kf9 _ _) rfl ((awake_any w1 (hT.on hB)).mono ?_)); rintro e w2 ⟨rfl, t_⟩; refine ⟨_, rfl, ?_⟩; replace b_s := b_s.below t_ b_s.lt; replace hB := hB.trans (t_.mono hB.size); clear t_; (try simp only [Act.put, List.setIfInBounds_toArray, List.set_cons_zero, List.set_cons_succ]))
    | ((with_reducible refine at_binD 18 ?_); refine L_give (by rfl) (g_igtr 3 _ _ .i64 _ _ true rfl rfl (decide_eq_true h1) ?_); (try simp only [Act.put, List.setIfInBounds_toArray, List.set_cons_zero, List.set_cons_succ]))
    | ((with_reducible refine at_binD 21 ?_); refine L_give (by rfl) (g_ileq 3 _ _ .i64 _ _ true rfl rfl (decide_eq_true h2) ?_); (try simp only [Act.put, List.setIfInBounds_toArray, List.set_cons_zero, List.set_cons_succ])))
  go_ret
  exact ⟨rfl, hB⟩
set_option maxRecDepth 10000 in
set_option maxHeartbeats 4000000 in
theorem walk_b (s : Ky) (n i : Int) (w : World) (hT : Tabs w) (A G U V : Ky) (E F : Int) (h1 : 40 < n) (h2 : ¬ n ≤ 1024) (hA : Shut (ky s n i = (A, E))) (hG : Shut (ky s n 0 = (G, F))) (hU : Shut (tg s ⟨#[116, 97, 103]⟩ = U)) (hV : Shut (tg s ⟨#[115, 101, 101, 100]⟩ = V)) : Calls Tryd.prog 3 #[.agg (kc s).toArray, .int .i64 n, .int .i64 i] w fun e w' => e = .returned (.bool true) ∧ Below w.heap.size w w' := by
  go_enter Tryd.func3, Tryd.ntmps3
  (try simp only [List.append_eq, List.cons_append, List.nil_append])
  go_wp2_with (first
    | ((with_reducible refine at_boxD 3 23 ?_); refine L_box 23 _ (kc (s)) rfl ?_; intro w1 t_ b_s; have l_hB_s : w.heap.size ≤ w.heap.size := Nat.le_refl _; have hB : Below w.heap.size w w1 := t_.below (Below.refl _ _) (Nat.le_refl _); clear t_; (try simp only [Act.put, List.setIfInBounds_toArray, List.set_cons_zero, List.set_cons_succ]))
    | ((with_reducible refine at_callD 15 ?_); refine L_give (by rfl) (g_call 9 _ _ [] (kf9 _ _) rfl ((awake_any w1 (hT.on hB)).mono ?_)); rintro e w2 ⟨rfl, t_⟩; refine ⟨_, rfl, ?_⟩; replace b_s := b_s.below t_ b_s.lt; replace hB := hB.trans (t_.mono hB.size); clear t_; (try simp only [Act.put, List.setIfInBounds_toArray, List.set_cons_zero, List.set_cons_succ]))
    | ((with_reducible refine at_binD 18 ?_); refine L_give (by rfl) (g_igtr 3 _ _ .i64 _ _ true rfl rfl (decide_eq_true h1) ?_); (try simp only [Act.put, List.setIfInBounds_toArray, List.set_cons_zero, List.set_cons_succ]))
    | ((with_reducible refine at_binD 21 ?_); refine L_give (by rfl) (g_ileq 3 _ _ .i64 _ _ false rfl rfl (decide_eq_false h2) ?_); (try simp only [Act.put, List.setIfInBounds_toArray, List.set_cons_zero, List.set_cons_succ]))
    | ((with_reducible refine at_loadD 24 23 ?_); refine L_give (by rfl) (g_load_all 23 _ (w.heap.size) (kc (s)) 23 _ rfl (b_s) Tryd.underlying23 rfl (szK _) ?_); (try simp only [Act.put, List.setIfInBounds_toArray, List.set_cons_zero, List.set_cons_succ]))
    | ((with_reducible refine at_callD 27 ?_); refine L_give (by rfl) (g_call 10 _ _ [.agg (kc (s)).toArray, .int .i64 (n), .int .i64 (i)] (kf10 _ _) rfl ((ckey_any s n i w2 (hT.on hB) A E hA).mono ?_)); rintro e w3 ⟨rfl, t_⟩; refine ⟨_, rfl, ?_⟩; replace b_s := b_s.below t_ b_s.lt; replace hB := hB.trans (t_.mono hB.size); clear t_; (try simp only [Act.put, List.setIfInBounds_toArray, List.set_cons_zero, List.set_cons_succ]))
    | ((with_reducible refine at_allocD 7 23 ?_); refine L_alloc 23 (kc (zk)) zeroK ?_; intro w4 t_ b_a; have o_s_a := b_s.lt; have l_hB_a : _ ≤ w3.heap.size := hB.size; replace b_s := t_.blk b_s (Nat.ne_of_lt b_s.lt); replace hB := t_.below hB l_hB_a; clear t_; (try simp only [Act.put, List.setIfInBounds_toArray, List.set_cons_zero, List.set_cons_succ]))
    | ((with_reducible refine at_storeX 7 23 ?_); refine L_store_all 23 _ _ (w3.heap.size) (kc (A)) _ 23 rfl rfl b_a (szK _) (kk_len _ _) (one_kc _) ?_; clear b_a; intro w5 t_ b_a; replace b_s := t_.blk b_s (Nat.ne_of_lt o_s_a); replace hB := t_.below hB l_hB_a; clear t_)
    | ((with_reducible refine at_loadD 31 23 ?_); refine L_give (by rfl) (g_load_all 23 _ (w.heap.size) (kc (s)) 23 _ rfl (b_s) Tryd.underlying23 rfl (szK _) ?_); (try simp only [Act.put, List.setIfInBounds_toArray, List.set_cons_zero, List.set_cons_succ]))
    | ((with_reducible refine at_callD 34 ?_); refine L_give (by rfl) (g_call 11 _ _ [.agg (kc (s)).toArray, .int .i64 (n), .int .i64 (i)] (kf11 _ _) rfl ((rckey_any s n i w5 A E hA).mono ?_)); rintro e w6 ⟨rfl, t_⟩; refine ⟨_, rfl, ?_⟩; replace b_s := b_s.below t_ b_s.lt; replace b_a := b_a.below t_ b_a.lt; replace hB := hB.trans (t_.mono hB.size); clear t_; (try simp only [Act.put, List.setIfInBounds_toArray, List.set_cons_zero, List.set_cons_succ]))
    | ((with_reducible refine at_allocD 9 23 ?_); refine L_alloc 23 (kc (zk)) zeroK ?_; intro w7 t_ b_b; have o_s_b := b_s.lt; have o_a_b := b_a.lt; have l_hB_b : _ ≤ w6.heap.size := hB.size; replace b_s := t_.blk b_s (Nat.ne_of_lt b_s.lt); replace b_a := t_.blk b_a (Nat.ne_of_lt b_a.lt); replace hB := t_.below hB l_hB_b; clear t_; (try simp only [Act.put, List.setIfInBounds_toArray, List.set_cons_zero, List.set_cons_succ]))
    | ((with_reducible refine at_storeX 9 23 ?_); refine L_store_all 23 _ _ (w6.heap.size) (kc (A)) _ 23 rfl rfl b_b (szK _) (kk_len _ _) (one_kc _) ?_; clear b_b; intro w8 t_ b_b; replace b_s := t_.blk b_s (Nat.ne_of_lt o_s_b); replace b_a := t_.blk b_a (Nat.ne_of_lt o_a_b); replace hB := t_.below hB l_hB_b; clear t_)
    | ((with_reducible refine at_loadD 38 23 ?_); refine L_give (by rfl) (g_load_all 23 _ (w.heap.size) (kc (s)) 23 _ rfl (b_s) Tryd.underlying23 rfl (szK _) ?_); (try simp only [Act.put, List.setIfInBounds_toArray, List.set_cons_zero, List.set_cons_succ]))
    | ((with_reducible refine at_callD 40 ?_); refine L_give (by rfl) (g_call 12 _ _ [.agg (kc (s)).toArray, .int .i64 (n)] (kf12 _ _) rfl ((known_any s n w8 (hT.on hB) G F hG).mono ?_)); rintro e w9 ⟨rfl, t_⟩; refine ⟨_, rfl, ?_⟩; replace b_s := b_s.below t_ b_s.lt; replace b_a := b_a.below t_ b_a.lt; replace b_b := b_b.below t_ b_b.lt; replace hB := hB.trans (t_.mono hB.size); clear t_; (try simp only [Act.put, List.setIfInBounds_toArray, List.set_cons_zero, List.set_cons_succ]))
    | ((with_reducible refine at_allocD 11 23 ?_); refine L_alloc 23 (kc (zk)) zeroK ?_; intro w10 t_ b_c; have o_s_c := b_s.lt; have o_a_c := b_a.lt; have o_b_c := b_b.lt; have l_hB_c : _ ≤ w9.heap.size := hB.size; replace b_s := t_.blk b_s (Nat.ne_of_lt b_s.lt); replace b_a := t_.blk b_a (Nat.ne_of_lt b_a.lt); replace b_b := t_.blk b_b (Nat.ne_of_lt b_b.lt); replace hB := t_.below hB l_hB_c; clear t_; (try simp only [Act.put, List.setIfInBounds_toArray, List.set_cons_zero, List.set_cons_succ]))
    | ((with_reducible refine at_storeX 11 23 ?_); refine L_store_all 23 _ _ (w9.heap.size) (kc (G)) _ 23 rfl rfl b_c (szK _) (kk_len _ _) (one_kc _) ?_; clear b_c; intro w11 t_ b_c; replace b_s := t_.blk b_s (Nat.ne_of_lt o_s_c); replace b_a := t_.blk b_a (Nat.ne_of_lt o_a_c); replace b_b := t_.blk b_b (Nat.ne_of_lt o_b_c); replace hB := t_.below hB l_hB_c; clear t_)
    | ((with_reducible refine at_loadD 44 23 ?_); refine L_give (by rfl) (g_load_all 23 _ (w.heap.size) (kc (s)) 23 _ rfl (b_s) Tryd.underlying23 rfl (szK _) ?_); (try simp only [Act.put, List.setIfInBounds_toArray, List.set_cons_zero, List.set_cons_succ]))
    | ((with_reducible refine at_callD 46 ?_); refine L_give (by rfl) (g_call 11 _ _ [.agg (kc (s)).toArray, .int .i64 (n), .int .i64 (0)] (kf11 _ _) rfl ((rckey_any s n 0 w11 G F hG).mono ?_)); rintro e w12 ⟨rfl, t_⟩; refine ⟨_, rfl, ?_⟩; replace b_s := b_s.below t_ b_s.lt; replace b_a := b_a.below t_ b_a.lt; replace b_b := b_b.below t_ b_b.lt; replace b_c := b_c.below t_ b_c.lt; replace hB := hB.trans (t_.mono hB.size); clear t_; (try simp only [Act.put, List.setIfInBounds_toArray, List.set_cons_zero, List.set_cons_succ]))
    | ((with_reducible refine at_allocD 13 23 ?_); refine L_alloc 23 (kc (zk)) zeroK ?_; intro w13 t_ b_d; have o_s_d := b_s.lt; have o_a_d := b_a.lt; have o_b_d := b_b.lt; have o_c_d := b_c.lt; have l_hB_d : _ ≤ w12.heap.size := hB.size; replace b_s := t_.blk b_s (Nat.ne_of_lt b_s.lt); replace b_a := t_.blk b_a (Nat.ne_of_lt b_a.lt); replace b_b := t_.blk b_b (Nat.ne_of_lt b_b.lt); replace b_c := t_.blk b_c (Nat.ne_of_lt b_c.lt); replace hB := t_.below hB l_hB_d; clear t_; (try simp only [Act.put, List.setIfInBounds_toArray, List.set_cons_zero, List.set_cons_succ]))
    | ((with_reducible refine at_storeX 13 23 ?_); refine L_store_all 23 _ _ (w12.heap.size) (kc (G)) _ 23 rfl rfl b_d (szK _) (kk_len _ _) (one_kc _) ?_; clear b_d; intro w14 t_ b_d; replace b_s := t_.blk b_s (Nat.ne_of_lt o_s_d); replace b_a := t_.blk b_a (Nat.ne_of_lt o_a_d); replace b_b := t_.blk b_b (Nat.ne_of_lt o_b_d); replace b_c := t_.blk b_c (Nat.ne_of_lt o_c_d); replace hB := t_.below hB l_hB_d; clear t_)
    | (refine stop_region 9 ?_; intro X hX))
  refine hX.out ?_
  clear hX X
  refine wp_region_fixed (by kernel_rfl) (by kernel_rfl) [.agg (kc (A)).toArray, .agg (kc (A)).toArray, .bool true, .bool true, .int .i64 (E), .int .i64 (E), .bool true, .bool true, .bool true, .agg (kc (G)).toArray, .agg (kc (G)).toArray, .bool true, .bool true, .bool true, .int .i64 (F), .int .i64 (F), .bool true, .bool true, .bool true, .agg (kc (s)).toArray, .agg (kc (U)).toArray, .agg (kc (s)).toArray, .agg (kc (U)).toArray, .bool true, .bool true, .bool true, .agg (kc (s)).toArray, .agg (kc (V)).toArray, .agg (kc (s)).toArray, .agg (kc (V)).toArray, .bool true, .bool true, .bool true] (by rfl) (fun w' => Below w14.heap.size w14 w') (Below.refl _ _).drew ?_ ?_
  · simp only [fullL, Act.put, List.setIfInBounds_toArray, List.set_cons_succ, List.set_cons_zero]
    refine ⟨?_, ?_, ?_, ?_, ?_, ?_, ?_, ?_, ?_, ?_, ?_, ?_, ?_, ?_, ?_, ?_, ?_, ?_, ?_, ?_, ?_, ?_, ?_, ?_, ?_, ?_, ?_, ?_, ?_, ?_, ?_, ?_, ?_, trivial⟩
    · exact fun wx hw => gw rfl (g_load_all 23 _ (w3.heap.size) (kc (A)) 23 _ rfl ((b_a.below hw b_a.lt)) Tryd.underlying23 rfl (szK _) ⟨rfl, hw⟩)
    · exact fun wx hw => gw rfl (g_load_all 23 _ (w6.heap.size) (kc (A)) 23 _ rfl ((b_b.below hw b_b.lt)) Tryd.underlying23 rfl (szK _) ⟨rfl, hw⟩)
    · exact fun wx hw => gw rfl (g_eqlK _ _ (A) (A) true rfl rfl (decide_eq_true rfl) ⟨rfl, hw⟩)
    · exact fun wx hw => gw rfl (g_move _ _ rfl ⟨rfl, hw⟩)
    · exact fun wx hw => gw rfl (g_move _ _ rfl ⟨rfl, hw⟩)
    · exact fun wx hw => gw rfl (g_move _ _ rfl ⟨rfl, hw⟩)
    · exact fun wx hw => gw rfl (g_ieq 25 _ _ .i64 _ _ true rfl rfl (decide_eq_true rfl) ⟨rfl, hw⟩)
    · exact fun wx hw => gw rfl (g_pickt _ _ _ _ rfl rfl ⟨rfl, hw⟩)
    · exact fun wx hw => gw rfl (g_move _ _ rfl ⟨rfl, hw⟩)
    · exact fun wx hw => gw rfl (g_load_all 23 _ (w9.heap.size) (kc (G)) 23 _ rfl ((b_c.below hw b_c.lt)) Tryd.underlying23 rfl (szK _) ⟨rfl, hw⟩)
    · exact fun wx hw => gw rfl (g_load_all 23 _ (w12.heap.size) (kc (G)) 23 _ rfl ((b_d.below hw b_d.lt)) Tryd.underlying23 rfl (szK _) ⟨rfl, hw⟩)
    · exact fun wx hw => gw rfl (g_eqlK _ _ (G) (G) true rfl rfl (decide_eq_true rfl) ⟨rfl, hw⟩)
    · exact fun wx hw => gw rfl (g_pickt _ _ _ _ rfl rfl ⟨rfl, hw⟩)
    · exact fun wx hw => gw rfl (g_move _ _ rfl ⟨rfl, hw⟩)
    · exact fun wx hw => gw rfl (g_move _ _ rfl ⟨rfl, hw⟩)
    · exact fun wx hw => gw rfl (g_move _ _ rfl ⟨rfl, hw⟩)
    · exact fun wx hw => gw rfl (g_ieq 25 _ _ .i64 _ _ true rfl rfl (decide_eq_true rfl) ⟨rfl, hw⟩)
    · exact fun wx hw => gw rfl (g_pickt _ _ _ _ rfl rfl ⟨rfl, hw⟩)
    · exact fun wx hw => gw rfl (g_move _ _ rfl ⟨rfl, hw⟩)
    · exact fun wx hw => gw rfl (g_load_all 23 _ (w.heap.size) (kc (s)) 23 _ rfl ((b_s.below hw b_s.lt)) Tryd.underlying23 rfl (szK _) ⟨rfl, hw⟩)
    · exact fun wx hw => gw rfl (g_call 13 _ _ [.agg (kc (s)).toArray] (kf13 _ _) rfl (mono_val hw (tagger_any s U wx ((hT.on hB).on hw) hU)))
    · exact fun wx hw => gw rfl (g_load_all 23 _ (w.heap.size) (kc (s)) 23 _ rfl ((b_s.below hw b_s.lt)) Tryd.underlying23 rfl (szK _) ⟨rfl, hw⟩)
    · exact fun wx hw => gw rfl (g_call 14 _ _ [.agg (kc (s)).toArray, .string (⟨#[116, 97, 103]⟩)] (kf14 _ _) rfl (mono_val hw (mrof_any s U ⟨#[116, 97, 103]⟩ wx (by decide) hU)))
    · exact fun wx hw => gw rfl (g_eqlK _ _ (U) (U) true rfl rfl (decide_eq_true rfl) ⟨rfl, hw⟩)
    · exact fun wx hw => gw rfl (g_pickt _ _ _ _ rfl rfl ⟨rfl, hw⟩)
    · exact fun wx hw => gw rfl (g_move _ _ rfl ⟨rfl, hw⟩)
    · exact fun wx hw => gw rfl (g_load_all 23 _ (w.heap.size) (kc (s)) 23 _ rfl ((b_s.below hw b_s.lt)) Tryd.underlying23 rfl (szK _) ⟨rfl, hw⟩)
    · exact fun wx hw => gw rfl (g_call 15 _ _ [.agg (kc (s)).toArray] (kf15 _ _) rfl (mono_val hw (next_any s V wx ((hT.on hB).on hw) hV)))
    · exact fun wx hw => gw rfl (g_load_all 23 _ (w.heap.size) (kc (s)) 23 _ rfl ((b_s.below hw b_s.lt)) Tryd.underlying23 rfl (szK _) ⟨rfl, hw⟩)
    · exact fun wx hw => gw rfl (g_call 14 _ _ [.agg (kc (s)).toArray, .string (⟨#[115, 101, 101, 100]⟩)] (kf14 _ _) rfl (mono_val hw (mrof_any s V ⟨#[115, 101, 101, 100]⟩ wx (by decide) hV)))
    · exact fun wx hw => gw rfl (g_eqlK _ _ (V) (V) true rfl rfl (decide_eq_true rfl) ⟨rfl, hw⟩)
    · exact fun wx hw => gw rfl (g_pickt _ _ _ _ rfl rfl ⟨rfl, hw⟩)
    · exact fun wx hw => gw rfl (g_assign _ _ rfl ⟨rfl, hw⟩)
  · simp only [fullL, Act.put, List.setIfInBounds_toArray, List.set_cons_succ, List.set_cons_zero]
    intro w15 t_
    replace b_s := b_s.below t_ b_s.lt
    replace b_a := b_a.below t_ b_a.lt
    replace b_b := b_b.below t_ b_b.lt
    replace b_c := b_c.below t_ b_c.lt
    replace b_d := b_d.below t_ b_d.lt
    replace hB := hB.trans (t_.mono hB.size)
    clear t_
    go_wp2_with fail
    go_ret
    exact ⟨rfl, hB⟩
set_option maxRecDepth 10000 in
set_option maxHeartbeats 4000000 in
theorem walk_c (s : Ky) (n i : Int) (w : World) (hT : Tabs w) (A G U V : Ky) (E F : Int) (h1 : ¬ 40 < n) (hA : Shut (ky s n i = (A, E))) (hG : Shut (ky s n 0 = (G, F))) (hU : Shut (tg s ⟨#[116, 97, 103]⟩ = U)) (hV : Shut (tg s ⟨#[115, 101, 101, 100]⟩ = V)) : Calls Tryd.prog 3 #[.agg (kc s).toArray, .int .i64 n, .int .i64 i] w fun e w' => e = .returned (.bool true) ∧ Below w.heap.size w w' := by
  go_enter Tryd.func3, Tryd.ntmps3
  (try simp only [List.append_eq, List.cons_append, List.nil_append])
  go_wp2_with (first
    | ((with_reducible refine at_boxD 3 23 ?_); refine L_box 23 _ (kc (s)) rfl ?_; intro w1 t_ b_s; have l_hB_s : w.heap.size ≤ w.heap.size := Nat.le_refl _; have hB : Below w.heap.size w w1 := t_.below (Below.refl _ _) (Nat.le_refl _); clear t_; (try simp only [Act.put, List.setIfInBounds_toArray, List.set_cons_zero, List.set_cons_succ]))
    | ((with_reducible refine at_callD 15 ?_); refine L_give (by rfl) (g_call 9 _ _ [] (kf9 _ _) rfl ((awake_any w1 (hT.on hB)).mono ?_)); rintro e w2 ⟨rfl, t_⟩; refine ⟨_, rfl, ?_⟩; replace b_s := b_s.below t_ b_s.lt; replace hB := hB.trans (t_.mono hB.size); clear t_; (try simp only [Act.put, List.setIfInBounds_toArray, List.set_cons_zero, List.set_cons_succ]))
    | ((with_reducible refine at_binD 18 ?_); refine L_give (by rfl) (g_igtr 3 _ _ .i64 _ _ false rfl rfl (decide_eq_false h1) ?_); (try simp only [Act.put, List.setIfInBounds_toArray, List.set_cons_zero, List.set_cons_succ]))
    | ((with_reducible refine at_loadD 24 23 ?_); refine L_give (by rfl) (g_load_all 23 _ (w.heap.size) (kc (s)) 23 _ rfl (b_s) Tryd.underlying23 rfl (szK _) ?_); (try simp only [Act.put, List.setIfInBounds_toArray, List.set_cons_zero, List.set_cons_succ]))
    | ((with_reducible refine at_callD 27 ?_); refine L_give (by rfl) (g_call 10 _ _ [.agg (kc (s)).toArray, .int .i64 (n), .int .i64 (i)] (kf10 _ _) rfl ((ckey_any s n i w2 (hT.on hB) A E hA).mono ?_)); rintro e w3 ⟨rfl, t_⟩; refine ⟨_, rfl, ?_⟩; replace b_s := b_s.below t_ b_s.lt; replace hB := hB.trans (t_.mono hB.size); clear t_; (try simp only [Act.put, List.setIfInBounds_toArray, List.set_cons_zero, List.set_cons_succ]))
    | ((with_reducible refine at_allocD 7 23 ?_); refine L_alloc 23 (kc (zk)) zeroK ?_; intro w4 t_ b_a; have o_s_a := b_s.lt; have l_hB_a : _ ≤ w3.heap.size := hB.size; replace b_s := t_.blk b_s (Nat.ne_of_lt b_s.lt); replace hB := t_.below hB l_hB_a; clear t_; (try simp only [Act.put, List.setIfInBounds_toArray, List.set_cons_zero, List.set_cons_succ]))
    | ((with_reducible refine at_storeX 7 23 ?_); refine L_store_all 23 _ _ (w3.heap.size) (kc (A)) _ 23 rfl rfl b_a (szK _) (kk_len _ _) (one_kc _) ?_; clear b_a; intro w5 t_ b_a; replace b_s := t_.blk b_s (Nat.ne_of_lt o_s_a); replace hB := t_.below hB l_hB_a; clear t_)
    | ((with_reducible refine at_loadD 31 23 ?_); refine L_give (by rfl) (g_load_all 23 _ (w.heap.size) (kc (s)) 23 _ rfl (b_s) Tryd.underlying23 rfl (szK _) ?_); (try simp only [Act.put, List.setIfInBounds_toArray, List.set_cons_zero, List.set_cons_succ]))
    | ((with_reducible refine at_callD 34 ?_); refine L_give (by rfl) (g_call 11 _ _ [.agg (kc (s)).toArray, .int .i64 (n), .int .i64 (i)] (kf11 _ _) rfl ((rckey_any s n i w5 A E hA).mono ?_)); rintro e w6 ⟨rfl, t_⟩; refine ⟨_, rfl, ?_⟩; replace b_s := b_s.below t_ b_s.lt; replace b_a := b_a.below t_ b_a.lt; replace hB := hB.trans (t_.mono hB.size); clear t_; (try simp only [Act.put, List.setIfInBounds_toArray, List.set_cons_zero, List.set_cons_succ]))
    | ((with_reducible refine at_allocD 9 23 ?_); refine L_alloc 23 (kc (zk)) zeroK ?_; intro w7 t_ b_b; have o_s_b := b_s.lt; have o_a_b := b_a.lt; have l_hB_b : _ ≤ w6.heap.size := hB.size; replace b_s := t_.blk b_s (Nat.ne_of_lt b_s.lt); replace b_a := t_.blk b_a (Nat.ne_of_lt b_a.lt); replace hB := t_.below hB l_hB_b; clear t_; (try simp only [Act.put, List.setIfInBounds_toArray, List.set_cons_zero, List.set_cons_succ]))
    | ((with_reducible refine at_storeX 9 23 ?_); refine L_store_all 23 _ _ (w6.heap.size) (kc (A)) _ 23 rfl rfl b_b (szK _) (kk_len _ _) (one_kc _) ?_; clear b_b; intro w8 t_ b_b; replace b_s := t_.blk b_s (Nat.ne_of_lt o_s_b); replace b_a := t_.blk b_a (Nat.ne_of_lt o_a_b); replace hB := t_.below hB l_hB_b; clear t_)
    | ((with_reducible refine at_loadD 38 23 ?_); refine L_give (by rfl) (g_load_all 23 _ (w.heap.size) (kc (s)) 23 _ rfl (b_s) Tryd.underlying23 rfl (szK _) ?_); (try simp only [Act.put, List.setIfInBounds_toArray, List.set_cons_zero, List.set_cons_succ]))
    | ((with_reducible refine at_callD 40 ?_); refine L_give (by rfl) (g_call 12 _ _ [.agg (kc (s)).toArray, .int .i64 (n)] (kf12 _ _) rfl ((known_any s n w8 (hT.on hB) G F hG).mono ?_)); rintro e w9 ⟨rfl, t_⟩; refine ⟨_, rfl, ?_⟩; replace b_s := b_s.below t_ b_s.lt; replace b_a := b_a.below t_ b_a.lt; replace b_b := b_b.below t_ b_b.lt; replace hB := hB.trans (t_.mono hB.size); clear t_; (try simp only [Act.put, List.setIfInBounds_toArray, List.set_cons_zero, List.set_cons_succ]))
    | ((with_reducible refine at_allocD 11 23 ?_); refine L_alloc 23 (kc (zk)) zeroK ?_; intro w10 t_ b_c; have o_s_c := b_s.lt; have o_a_c := b_a.lt; have o_b_c := b_b.lt; have l_hB_c : _ ≤ w9.heap.size := hB.size; replace b_s := t_.blk b_s (Nat.ne_of_lt b_s.lt); replace b_a := t_.blk b_a (Nat.ne_of_lt b_a.lt); replace b_b := t_.blk b_b (Nat.ne_of_lt b_b.lt); replace hB := t_.below hB l_hB_c; clear t_; (try simp only [Act.put, List.setIfInBounds_toArray, List.set_cons_zero, List.set_cons_succ]))
    | ((with_reducible refine at_storeX 11 23 ?_); refine L_store_all 23 _ _ (w9.heap.size) (kc (G)) _ 23 rfl rfl b_c (szK _) (kk_len _ _) (one_kc _) ?_; clear b_c; intro w11 t_ b_c; replace b_s := t_.blk b_s (Nat.ne_of_lt o_s_c); replace b_a := t_.blk b_a (Nat.ne_of_lt o_a_c); replace b_b := t_.blk b_b (Nat.ne_of_lt o_b_c); replace hB := t_.below hB l_hB_c; clear t_)
    | ((with_reducible refine at_loadD 44 23 ?_); refine L_give (by rfl) (g_load_all 23 _ (w.heap.size) (kc (s)) 23 _ rfl (b_s) Tryd.underlying23 rfl (szK _) ?_); (try simp only [Act.put, List.setIfInBounds_toArray, List.set_cons_zero, List.set_cons_succ]))
    | ((with_reducible refine at_callD 46 ?_); refine L_give (by rfl) (g_call 11 _ _ [.agg (kc (s)).toArray, .int .i64 (n), .int .i64 (0)] (kf11 _ _) rfl ((rckey_any s n 0 w11 G F hG).mono ?_)); rintro e w12 ⟨rfl, t_⟩; refine ⟨_, rfl, ?_⟩; replace b_s := b_s.below t_ b_s.lt; replace b_a := b_a.below t_ b_a.lt; replace b_b := b_b.below t_ b_b.lt; replace b_c := b_c.below t_ b_c.lt; replace hB := hB.trans (t_.mono hB.size); clear t_; (try simp only [Act.put, List.setIfInBounds_toArray, List.set_cons_zero, List.set_cons_succ]))
    | ((with_reducible refine at_allocD 13 23 ?_); refine L_alloc 23 (kc (zk)) zeroK ?_; intro w13 t_ b_d; have o_s_d := b_s.lt; have o_a_d := b_a.lt; have o_b_d := b_b.lt; have o_c_d := b_c.lt; have l_hB_d : _ ≤ w12.heap.size := hB.size; replace b_s := t_.blk b_s (Nat.ne_of_lt b_s.lt); replace b_a := t_.blk b_a (Nat.ne_of_lt b_a.lt); replace b_b := t_.blk b_b (Nat.ne_of_lt b_b.lt); replace b_c := t_.blk b_c (Nat.ne_of_lt b_c.lt); replace hB := t_.below hB l_hB_d; clear t_; (try simp only [Act.put, List.setIfInBounds_toArray, List.set_cons_zero, List.set_cons_succ]))
    | ((with_reducible refine at_storeX 13 23 ?_); refine L_store_all 23 _ _ (w12.heap.size) (kc (G)) _ 23 rfl rfl b_d (szK _) (kk_len _ _) (one_kc _) ?_; clear b_d; intro w14 t_ b_d; replace b_s := t_.blk b_s (Nat.ne_of_lt o_s_d); replace b_a := t_.blk b_a (Nat.ne_of_lt o_a_d); replace b_b := t_.blk b_b (Nat.ne_of_lt o_b_d); replace b_c := t_.blk b_c (Nat.ne_of_lt o_c_d); replace hB := t_.below hB l_hB_d; clear t_)
    | (refine stop_region 9 ?_; intro X hX))
  refine hX.out ?_
  clear hX X
  refine wp_region_fixed (by kernel_rfl) (by kernel_rfl) [.agg (kc (A)).toArray, .agg (kc (A)).toArray, .bool true, .bool true, .int .i64 (E), .int .i64 (E), .bool true, .bool true, .bool true, .agg (kc (G)).toArray, .agg (kc (G)).toArray, .bool true, .bool true, .bool true, .int .i64 (F), .int .i64 (F), .bool true, .bool true, .bool true, .agg (kc (s)).toArray, .agg (kc (U)).toArray, .agg (kc (s)).toArray, .agg (kc (U)).toArray, .bool true, .bool true, .bool true, .agg (kc (s)).toArray, .agg (kc (V)).toArray, .agg (kc (s)).toArray, .agg (kc (V)).toArray, .bool true, .bool true, .bool true] (by rfl) (fun w' => Below w14.heap.size w14 w') (Below.refl _ _).drew ?_ ?_
  · simp only [fullL, Act.put, List.setIfInBounds_toArray, List.set_cons_succ, List.set_cons_zero]
    refine ⟨?_, ?_, ?_, ?_, ?_, ?_, ?_, ?_, ?_, ?_, ?_, ?_, ?_, ?_, ?_, ?_, ?_, ?_, ?_, ?_, ?_, ?_, ?_, ?_, ?_, ?_, ?_, ?_, ?_, ?_, ?_, ?_, ?_, trivial⟩
    · exact fun wx hw => gw rfl (g_load_all 23 _ (w3.heap.size) (kc (A)) 23 _ rfl ((b_a.below hw b_a.lt)) Tryd.underlying23 rfl (szK _) ⟨rfl, hw⟩)
    · exact fun wx hw => gw rfl (g_load_all 23 _ (w6.heap.size) (kc (A)) 23 _ rfl ((b_b.below hw b_b.lt)) Tryd.underlying23 rfl (szK _) ⟨rfl, hw⟩)
    · exact fun wx hw => gw rfl (g_eqlK _ _ (A) (A) true rfl rfl (decide_eq_true rfl) ⟨rfl, hw⟩)
    · exact fun wx hw => gw rfl (g_move _ _ rfl ⟨rfl, hw⟩)
    · exact fun wx hw => gw rfl (g_move _ _ rfl ⟨rfl, hw⟩)
    · exact fun wx hw => gw rfl (g_move _ _ rfl ⟨rfl, hw⟩)
    · exact fun wx hw => gw rfl (g_ieq 25 _ _ .i64 _ _ true rfl rfl (decide_eq_true rfl) ⟨rfl, hw⟩)
    · exact fun wx hw => gw rfl (g_pickt _ _ _ _ rfl rfl ⟨rfl, hw⟩)
    · exact fun wx hw => gw rfl (g_move _ _ rfl ⟨rfl, hw⟩)
    · exact fun wx hw => gw rfl (g_load_all 23 _ (w9.heap.size) (kc (G)) 23 _ rfl ((b_c.below hw b_c.lt)) Tryd.underlying23 rfl (szK _) ⟨rfl, hw⟩)
    · exact fun wx hw => gw rfl (g_load_all 23 _ (w12.heap.size) (kc (G)) 23 _ rfl ((b_d.below hw b_d.lt)) Tryd.underlying23 rfl (szK _) ⟨rfl, hw⟩)
    · exact fun wx hw => gw rfl (g_eqlK _ _ (G) (G) true rfl rfl (decide_eq_true rfl) ⟨rfl, hw⟩)
    · exact fun wx hw => gw rfl (g_pickt _ _ _ _ rfl rfl ⟨rfl, hw⟩)
    · exact fun wx hw => gw rfl (g_move _ _ rfl ⟨rfl, hw⟩)
    · exact fun wx hw => gw rfl (g_move _ _ rfl ⟨rfl, hw⟩)
    · exact fun wx hw => gw rfl (g_move _ _ rfl ⟨rfl, hw⟩)
    · exact fun wx hw => gw rfl (g_ieq 25 _ _ .i64 _ _ true rfl rfl (decide_eq_true rfl) ⟨rfl, hw⟩)
    · exact fun wx hw => gw rfl (g_pickt _ _ _ _ rfl rfl ⟨rfl, hw⟩)
    · exact fun wx hw => gw rfl (g_move _ _ rfl ⟨rfl, hw⟩)
    · exact fun wx hw => gw rfl (g_load_all 23 _ (w.heap.size) (kc (s)) 23 _ rfl ((b_s.below hw b_s.lt)) Tryd.underlying23 rfl (szK _) ⟨rfl, hw⟩)
    · exact fun wx hw => gw rfl (g_call 13 _ _ [.agg (kc (s)).toArray] (kf13 _ _) rfl (mono_val hw (tagger_any s U wx ((hT.on hB).on hw) hU)))
    · exact fun wx hw => gw rfl (g_load_all 23 _ (w.heap.size) (kc (s)) 23 _ rfl ((b_s.below hw b_s.lt)) Tryd.underlying23 rfl (szK _) ⟨rfl, hw⟩)
    · exact fun wx hw => gw rfl (g_call 14 _ _ [.agg (kc (s)).toArray, .string (⟨#[116, 97, 103]⟩)] (kf14 _ _) rfl (mono_val hw (mrof_any s U ⟨#[116, 97, 103]⟩ wx (by decide) hU)))
    · exact fun wx hw => gw rfl (g_eqlK _ _ (U) (U) true rfl rfl (decide_eq_true rfl) ⟨rfl, hw⟩)
    · exact fun wx hw => gw rfl (g_pickt _ _ _ _ rfl rfl ⟨rfl, hw⟩)
    · exact fun wx hw => gw rfl (g_move _ _ rfl ⟨rfl, hw⟩)
    · exact fun wx hw => gw rfl (g_load_all 23 _ (w.heap.size) (kc (s)) 23 _ rfl ((b_s.below hw b_s.lt)) Tryd.underlying23 rfl (szK _) ⟨rfl, hw⟩)
    · exact fun wx hw => gw rfl (g_call 15 _ _ [.agg (kc (s)).toArray] (kf15 _ _) rfl (mono_val hw (next_any s V wx ((hT.on hB).on hw) hV)))
    · exact fun wx hw => gw rfl (g_load_all 23 _ (w.heap.size) (kc (s)) 23 _ rfl ((b_s.below hw b_s.lt)) Tryd.underlying23 rfl (szK _) ⟨rfl, hw⟩)
    · exact fun wx hw => gw rfl (g_call 14 _ _ [.agg (kc (s)).toArray, .string (⟨#[115, 101, 101, 100]⟩)] (kf14 _ _) rfl (mono_val hw (mrof_any s V ⟨#[115, 101, 101, 100]⟩ wx (by decide) hV)))
    · exact fun wx hw => gw rfl (g_eqlK _ _ (V) (V) true rfl rfl (decide_eq_true rfl) ⟨rfl, hw⟩)
    · exact fun wx hw => gw rfl (g_pickt _ _ _ _ rfl rfl ⟨rfl, hw⟩)
    · exact fun wx hw => gw rfl (g_assign _ _ rfl ⟨rfl, hw⟩)
  · simp only [fullL, Act.put, List.setIfInBounds_toArray, List.set_cons_succ, List.set_cons_zero]
    intro w15 t_
    replace b_s := b_s.below t_ b_s.lt
    replace b_a := b_a.below t_ b_a.lt
    replace b_b := b_b.below t_ b_b.lt
    replace b_c := b_c.below t_ b_c.lt
    replace b_d := b_d.below t_ b_d.lt
    replace hB := hB.trans (t_.mono hB.size)
    clear t_
    go_wp2_with fail
    go_ret
    exact ⟨rfl, hB⟩
theorem walk (l0 : List UInt8) (h0 : l0.length = 32) (n : Int) (hn : (Lit.int .i64 n).wf = true) (i : Int) (hi : (Lit.int .i64 i).wf = true) (w : World) (hT : Tabs w) : Calls Tryd.prog 3 #[.agg (bc l0).toArray, .int .i64 n, .int .i64 i] w fun e w' => e = .returned (.bool true) ∧ Below w.heap.size w w' := by
  by_cases h1 : 40 < n
  · by_cases h2 : n ≤ 1024
    · exact walk_a ⟨l0, h0⟩ n i w hT h1 h2
    · exact walk_b ⟨l0, h0⟩ n i w hT _ _ _ _ _ _ h1 h2 ⟨rfl⟩ ⟨rfl⟩ ⟨rfl⟩ ⟨rfl⟩
  · exact walk_c ⟨l0, h0⟩ n i w hT _ _ _ _ _ _ h1 ⟨rfl⟩ ⟨rfl⟩ ⟨rfl⟩ ⟨rfl⟩
end Go.Proofs.YtcenaklbfdhimaaDoor.chainTells
