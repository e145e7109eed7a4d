/- The calls that every law of layer 8 asks first: they answer as they should, whatever the world is. -/
import Derived.Test.YtcenaklbfdhimaaDoorCh2
import Derived.WalkKit
import Derived.WalkSpells
import Derived.WalkLawsBesides
namespace Go.Proofs.YtcenaklbfdhimaaDoor
open Go Go.RowKit
set_option linter.unusedVariables false
set_option linter.unusedSimpArgs false

/-- The digest of the digest, reckoned. -/
def wdg : Nat → List UInt8 → List UInt8
  | 0, k => k
  | n + 1, k => dig (wdg n k)
theorem wd_walk (n : Nat) (k : List UInt8) : walkF n k = wdg n k := by
  induction n with
  | zero => rfl
  | succ n ih => rw [walkF, wdg, ih, sum_dig]
theorem wl_l (n : Nat) (k : Ky) : (wl n k).l = walkF n k.l := by simp only [wl]
theorem tg_l (k : Ky) (t : ByteArray) : (tg k t).l = tag k.l t.data.toList := by simp only [tg]
theorem last_is : tag k1.l chainW.data.toList = [220, 38, 39, 15, 151, 80, 58, 61, 204, 5, 33, 143, 119, 189, 204, 20, 223, 164, 207, 127, 251, 126, 249, 181, 113, 206, 150, 232, 135, 98, 206, 249] := by
  rw [tag, sum_dig, sum_dig]
  decide +kernel
theorem six_is : wdg 6 [220, 38, 39, 15, 151, 80, 58, 61, 204, 5, 33, 143, 119, 189, 204, 20, 223, 164, 207, 127, 251, 126, 249, 181, 113, 206, 150, 232, 135, 98, 206, 249] = [106, 171, 20, 58, 128, 186, 21, 21, 93, 221, 238, 244, 220, 1, 63, 127, 232, 85, 181, 47, 199, 33, 209, 193, 80, 34, 124, 185, 144, 128, 119, 229] := by decide +kernel
theorem two_not : wdg 2 [106, 171, 20, 58, 128, 186, 21, 21, 93, 221, 238, 244, 220, 1, 63, 127, 232, 85, 181, 47, 199, 33, 209, 193, 80, 34, 124, 185, 144, 128, 119, 229] ≠ [106, 171, 20, 58, 128, 186, 21, 21, 93, 221, 238, 244, 220, 1, 63, 127, 232, 85, 181, 47, 199, 33, 209, 193, 80, 34, 124, 185, 144, 128, 119, 229] := by decide +kernel
theorem loop_not : ¬ (wl 2 (wl 6 (tg k1 chainW))).l = (wl 6 (tg k1 chainW)).l := by
  have e : (wl 6 (tg k1 chainW)).l = [106, 171, 20, 58, 128, 186, 21, 21, 93, 221, 238, 244, 220, 1, 63, 127, 232, 85, 181, 47, 199, 33, 209, 193, 80, 34, 124, 185, 144, 128, 119, 229] := by
    rw [wl_l, tg_l, last_is, wd_walk, six_is]
  rw [wl_l 2, e, wd_walk]
  exact two_not
set_option maxRecDepth 10000 in
set_option maxHeartbeats 4000000 in
theorem awake_core (w : World) (hT : Tabs w) (A B G U V : Ky) (hA : Shut (ky k1 9 3 = (A, 0))) (hBk : Shut (ky k1 9 5 = (B, 0))) (hZ : Shut (ky k1 9 10 = (zk, 1))) (hG : Shut (ky k1 9 0 = (G, 0))) (hM : Shut (ln G 0 B 5 9 = ((B, 5), 0))) (hTl : Shut (tl B 5 3 = (A, 0))) (hW1 : Shut (wl (min 2 4096 : Int).toNat B = A)) (hW2 : Shut (wl (min 3 4096 : Int).toNat A = G)) (c1 : Shut (ck A 3 B 5 4 = 0)) (c2 : Shut (ck A 3 B 5 1 = 16)) (c3 : Shut (ck A 3 A 5 4 = 13)) (c4 : Shut (ck A 3 A 3 4 = 1)) (hU : Shut (tg A ⟨#[116, 97, 103]⟩ = U)) (hV : Shut (tg k1 ⟨#[115, 101, 101, 100]⟩ = V)) : Calls Tryd.prog 9 #[] w fun e w' => e = .returned (.bool true) ∧ Below w.heap.size w w' := by
  go_enter Tryd.func9, Tryd.ntmps9
  (try simp only [List.append_eq, List.cons_append, List.nil_append])
  go_wp2_with (first
    | ((with_reducible refine at_bld 14 ?_); refine L_give (by rfl) (g_bldK1 ?_); (try simp only [Act.put, List.setIfInBounds_toArray, List.set_cons_zero, List.set_cons_succ]))
    | ((with_reducible refine at_allocD 1 23 ?_); refine L_alloc 23 (kc (zk)) zeroK ?_; intro w1 t_ b_s; have l_hB_s : w.heap.size ≤ w.heap.size := Nat.le_refl _; have hB : Below w.heap.size w w1 := t_.below (Below.refl _ _) (Nat.le_refl _); clear t_; (try simp only [Act.put, List.setIfInBounds_toArray, List.set_cons_zero, List.set_cons_succ]))
    | ((with_reducible refine at_storeX 1 23 ?_); refine L_store_all 23 _ _ (w.heap.size) (kc (k1)) _ 23 rfl rfl b_s (szK _) (kk_len _ _) (one_kc _) ?_; clear b_s; intro w2 t_ b_s; replace hB := t_.below hB l_hB_s; clear t_)
    | ((with_reducible refine at_loadD 16 23 ?_); refine L_give (by rfl) (g_load_all 23 _ (w.heap.size) (kc (k1)) 23 _ rfl (b_s) Tryd.underlying23 rfl (szK _) ?_); (try simp only [Act.put, List.setIfInBounds_toArray, List.set_cons_zero, List.set_cons_succ]))
    | ((with_reducible refine at_callD 17 ?_); refine L_give (by rfl) (g_call 10 _ _ [.agg (kc (k1)).toArray, .int .i64 (9), .int .i64 (3)] (kf10 _ _) rfl ((ckey_any k1 9 3 w2 (hT.on hB) A 0 hA).mono ?_)); rintro e w3 ⟨rfl, t_⟩; refine ⟨_, rfl, ?_⟩; replace b_s := b_s.below t_ b_s.lt; replace hB := hB.trans (t_.mono hB.size); clear t_; (try simp only [Act.put, List.setIfInBounds_toArray, List.set_cons_zero, List.set_cons_succ]))
    | ((with_reducible refine at_allocD 2 23 ?_); refine L_alloc 23 (kc (zk)) zeroK ?_; intro w4 t_ b_a; have o_s_a := b_s.lt; have l_hB_a : _ ≤ w3.heap.size := hB.size; replace b_s := t_.blk b_s (Nat.ne_of_lt b_s.lt); replace hB := t_.below hB l_hB_a; clear t_; (try simp only [Act.put, List.setIfInBounds_toArray, List.set_cons_zero, List.set_cons_succ]))
    | ((with_reducible refine at_storeX 2 23 ?_); refine L_store_all 23 _ _ (w3.heap.size) (kc (A)) _ 23 rfl rfl b_a (szK _) (kk_len _ _) (one_kc _) ?_; clear b_a; intro w5 t_ b_a; replace b_s := t_.blk b_s (Nat.ne_of_lt o_s_a); replace hB := t_.below hB l_hB_a; clear t_)
    | ((with_reducible refine at_loadD 21 23 ?_); refine L_give (by rfl) (g_load_all 23 _ (w.heap.size) (kc (k1)) 23 _ rfl (b_s) Tryd.underlying23 rfl (szK _) ?_); (try simp only [Act.put, List.setIfInBounds_toArray, List.set_cons_zero, List.set_cons_succ]))
    | ((with_reducible refine at_callD 22 ?_); refine L_give (by rfl) (g_call 10 _ _ [.agg (kc (k1)).toArray, .int .i64 (9), .int .i64 (5)] (kf10 _ _) rfl ((ckey_any k1 9 5 w5 (hT.on hB) B 0 hBk).mono ?_)); rintro e w6 ⟨rfl, t_⟩; refine ⟨_, rfl, ?_⟩; replace b_s := b_s.below t_ b_s.lt; replace b_a := b_a.below t_ b_a.lt; replace hB := hB.trans (t_.mono hB.size); clear t_; (try simp only [Act.put, List.setIfInBounds_toArray, List.set_cons_zero, List.set_cons_succ]))
    | ((with_reducible refine at_allocD 4 23 ?_); refine L_alloc 23 (kc (zk)) zeroK ?_; intro w7 t_ b_b; have o_s_b := b_s.lt; have o_a_b := b_a.lt; have l_hB_b : _ ≤ w6.heap.size := hB.size; replace b_s := t_.blk b_s (Nat.ne_of_lt b_s.lt); replace b_a := t_.blk b_a (Nat.ne_of_lt b_a.lt); replace hB := t_.below hB l_hB_b; clear t_; (try simp only [Act.put, List.setIfInBounds_toArray, List.set_cons_zero, List.set_cons_succ]))
    | ((with_reducible refine at_storeX 4 23 ?_); refine L_store_all 23 _ _ (w6.heap.size) (kc (B)) _ 23 rfl rfl b_b (szK _) (kk_len _ _) (one_kc _) ?_; clear b_b; intro w8 t_ b_b; replace b_s := t_.blk b_s (Nat.ne_of_lt o_s_b); replace b_a := t_.blk b_a (Nat.ne_of_lt o_a_b); replace hB := t_.below hB l_hB_b; clear t_)
    | ((with_reducible refine at_loadD 26 23 ?_); refine L_give (by rfl) (g_load_all 23 _ (w.heap.size) (kc (k1)) 23 _ rfl (b_s) Tryd.underlying23 rfl (szK _) ?_); (try simp only [Act.put, List.setIfInBounds_toArray, List.set_cons_zero, List.set_cons_succ]))
    | ((with_reducible refine at_callD 27 ?_); refine L_give (by rfl) (g_call 10 _ _ [.agg (kc (k1)).toArray, .int .i64 (9), .int .i64 (10)] (kf10 _ _) rfl ((ckey_any k1 9 10 w8 (hT.on hB) zk 1 hZ).mono ?_)); rintro e w9 ⟨rfl, t_⟩; refine ⟨_, rfl, ?_⟩; replace b_s := b_s.below t_ b_s.lt; replace b_a := b_a.below t_ b_a.lt; replace b_b := b_b.below t_ b_b.lt; replace hB := hB.trans (t_.mono hB.size); clear t_; (try simp only [Act.put, List.setIfInBounds_toArray, List.set_cons_zero, List.set_cons_succ]))
    | ((with_reducible refine at_allocD 6 23 ?_); refine L_alloc 23 (kc (zk)) zeroK ?_; intro w10 t_ b_z; have o_s_z := b_s.lt; have o_a_z := b_a.lt; have o_b_z := b_b.lt; have l_hB_z : _ ≤ w9.heap.size := hB.size; replace b_s := t_.blk b_s (Nat.ne_of_lt b_s.lt); replace b_a := t_.blk b_a (Nat.ne_of_lt b_a.lt); replace b_b := t_.blk b_b (Nat.ne_of_lt b_b.lt); replace hB := t_.below hB l_hB_z; clear t_; (try simp only [Act.put, List.setIfInBounds_toArray, List.set_cons_zero, List.set_cons_succ]))
    | ((with_reducible refine at_storeX 6 23 ?_); refine L_store_all 23 _ _ (w9.heap.size) (kc (zk)) _ 23 rfl rfl b_z (szK _) (kk_len _ _) (one_kc _) ?_; clear b_z; intro w11 t_ b_z; replace b_s := t_.blk b_s (Nat.ne_of_lt o_s_z); replace b_a := t_.blk b_a (Nat.ne_of_lt o_a_z); replace b_b := t_.blk b_b (Nat.ne_of_lt o_b_z); replace hB := t_.below hB l_hB_z; clear t_)
    | ((with_reducible refine at_loadD 31 23 ?_); refine L_give (by rfl) (g_load_all 23 _ (w.heap.size) (kc (k1)) 23 _ rfl (b_s) Tryd.underlying23 rfl (szK _) ?_); (try simp only [Act.put, List.setIfInBounds_toArray, List.set_cons_zero, List.set_cons_succ]))
    | ((with_reducible refine at_callD 32 ?_); refine L_give (by rfl) (g_call 12 _ _ [.agg (kc (k1)).toArray, .int .i64 (9)] (kf12 _ _) rfl ((known_any k1 9 w11 (hT.on hB) G 0 hG).mono ?_)); rintro e w12 ⟨rfl, t_⟩; refine ⟨_, rfl, ?_⟩; replace b_s := b_s.below t_ b_s.lt; replace b_a := b_a.below t_ b_a.lt; replace b_b := b_b.below t_ b_b.lt; replace b_z := b_z.below t_ b_z.lt; replace hB := hB.trans (t_.mono hB.size); clear t_; (try simp only [Act.put, List.setIfInBounds_toArray, List.set_cons_zero, List.set_cons_succ]))
    | ((with_reducible refine at_allocD 8 23 ?_); refine L_alloc 23 (kc (zk)) zeroK ?_; intro w13 t_ b_g; have o_s_g := b_s.lt; have o_a_g := b_a.lt; have o_b_g := b_b.lt; have o_z_g := b_z.lt; have l_hB_g : _ ≤ w12.heap.size := hB.size; replace b_s := t_.blk b_s (Nat.ne_of_lt b_s.lt); replace b_a := t_.blk b_a (Nat.ne_of_lt b_a.lt); replace b_b := t_.blk b_b (Nat.ne_of_lt b_b.lt); replace b_z := t_.blk b_z (Nat.ne_of_lt b_z.lt); replace hB := t_.below hB l_hB_g; clear t_; (try simp only [Act.put, List.setIfInBounds_toArray, List.set_cons_zero, List.set_cons_succ]))
    | ((with_reducible refine at_storeX 8 23 ?_); refine L_store_all 23 _ _ (w12.heap.size) (kc (G)) _ 23 rfl rfl b_g (szK _) (kk_len _ _) (one_kc _) ?_; clear b_g; intro w14 t_ b_g; replace b_s := t_.blk b_s (Nat.ne_of_lt o_s_g); replace b_a := t_.blk b_a (Nat.ne_of_lt o_a_g); replace b_b := t_.blk b_b (Nat.ne_of_lt o_b_g); replace b_z := t_.blk b_z (Nat.ne_of_lt o_z_g); replace hB := t_.below hB l_hB_g; clear t_)
    | ((with_reducible refine at_loadD 36 23 ?_); refine L_give (by rfl) (g_load_all 23 _ (w12.heap.size) (kc (G)) 23 _ rfl (b_g) Tryd.underlying23 rfl (szK _) ?_); (try simp only [Act.put, List.setIfInBounds_toArray, List.set_cons_zero, List.set_cons_succ]))
    | ((with_reducible refine at_bld 37 ?_); refine L_give (by rfl) (g_bldM1 _ (G) rfl ?_); (try simp only [Act.put, List.setIfInBounds_toArray, List.set_cons_zero, List.set_cons_succ]))
    | ((with_reducible refine at_loadD 38 23 ?_); refine L_give (by rfl) (g_load_all 23 _ (w6.heap.size) (kc (B)) 23 _ rfl (b_b) Tryd.underlying23 rfl (szK _) ?_); (try simp only [Act.put, List.setIfInBounds_toArray, List.set_cons_zero, List.set_cons_succ]))
    | ((with_reducible refine at_callD 39 ?_); refine L_give (by rfl) (g_call 17 _ _ [.agg (mc (G) (0)).toArray, .agg (kc (B)).toArray, .int .i64 (5), .int .i64 (9)] (kf17 _ _) rfl ((learn_any G 0 B 5 9 w14 (hT.on hB) B 5 0 (by decide) hM).mono ?_)); rintro e w15 ⟨rfl, t_⟩; refine ⟨_, rfl, ?_⟩; replace b_s := b_s.below t_ b_s.lt; replace b_a := b_a.below t_ b_a.lt; replace b_b := b_b.below t_ b_b.lt; replace b_z := b_z.below t_ b_z.lt; replace b_g := b_g.below t_ b_g.lt; replace hB := hB.trans (t_.mono hB.size); clear t_; (try simp only [Act.put, List.setIfInBounds_toArray, List.set_cons_zero, List.set_cons_succ]))
    | ((with_reducible refine at_allocD 10 34 ?_); refine L_alloc 34 (mc (zk) (0)) zeroM ?_; intro w16 t_ b_m; have o_s_m := b_s.lt; have o_a_m := b_a.lt; have o_b_m := b_b.lt; have o_z_m := b_z.lt; have o_g_m := b_g.lt; have l_hB_m : _ ≤ w15.heap.size := hB.size; replace b_s := t_.blk b_s (Nat.ne_of_lt b_s.lt); replace b_a := t_.blk b_a (Nat.ne_of_lt b_a.lt); replace b_b := t_.blk b_b (Nat.ne_of_lt b_b.lt); replace b_z := t_.blk b_z (Nat.ne_of_lt b_z.lt); replace b_g := t_.blk b_g (Nat.ne_of_lt b_g.lt); replace hB := t_.below hB l_hB_m; clear t_; (try simp only [Act.put, List.setIfInBounds_toArray, List.set_cons_zero, List.set_cons_succ]))
    | ((with_reducible refine at_storeX 10 34 ?_); refine L_store_all 34 _ _ (w15.heap.size) (mc (B) (5)) _ 34 rfl rfl b_m (szM _ _) (mm_len _ _ _ _) (one_mc _ _) ?_; clear b_m; intro w17 t_ b_m; replace b_s := t_.blk b_s (Nat.ne_of_lt o_s_m); replace b_a := t_.blk b_a (Nat.ne_of_lt o_a_m); replace b_b := t_.blk b_b (Nat.ne_of_lt o_b_m); replace b_z := t_.blk b_z (Nat.ne_of_lt o_z_m); replace b_g := t_.blk b_g (Nat.ne_of_lt o_g_m); replace hB := t_.below hB l_hB_m; clear t_)
    | ((with_reducible refine at_loadD 43 34 ?_); refine L_give (by rfl) (g_load_all 34 _ (w15.heap.size) (mc (B) (5)) 34 _ rfl (b_m) Tryd.underlying34 rfl (szM _ _) ?_); (try simp only [Act.put, List.setIfInBounds_toArray, List.set_cons_zero, List.set_cons_succ]))
    | ((with_reducible refine at_callD 44 ?_); refine L_give (by rfl) (g_call 18 _ _ [.agg (mc (B) (5)).toArray, .int .i64 (3)] (kf18 _ _) rfl ((tell_any B 5 3 w17 (hT.on hB) A 0 (by decide) hTl).mono ?_)); rintro e w18 ⟨rfl, t_⟩; refine ⟨_, rfl, ?_⟩; replace b_s := b_s.below t_ b_s.lt; replace b_a := b_a.below t_ b_a.lt; replace b_b := b_b.below t_ b_b.lt; replace b_z := b_z.below t_ b_z.lt; replace b_g := b_g.below t_ b_g.lt; replace b_m := b_m.below t_ b_m.lt; replace hB := hB.trans (t_.mono hB.size); clear t_; (try simp only [Act.put, List.setIfInBounds_toArray, List.set_cons_zero, List.set_cons_succ]))
    | ((with_reducible refine at_allocD 12 23 ?_); refine L_alloc 23 (kc (zk)) zeroK ?_; intro w19 t_ b_t; have o_s_t := b_s.lt; have o_a_t := b_a.lt; have o_b_t := b_b.lt; have o_z_t := b_z.lt; have o_g_t := b_g.lt; have o_m_t := b_m.lt; have l_hB_t : _ ≤ w18.heap.size := hB.size; replace b_s := t_.blk b_s (Nat.ne_of_lt b_s.lt); replace b_a := t_.blk b_a (Nat.ne_of_lt b_a.lt); replace b_b := t_.blk b_b (Nat.ne_of_lt b_b.lt); replace b_z := t_.blk b_z (Nat.ne_of_lt b_z.lt); replace b_g := t_.blk b_g (Nat.ne_of_lt b_g.lt); replace b_m := t_.blk b_m (Nat.ne_of_lt b_m.lt); replace hB := t_.below hB l_hB_t; clear t_; (try simp only [Act.put, List.setIfInBounds_toArray, List.set_cons_zero, List.set_cons_succ]))
    | ((with_reducible refine at_storeX 12 23 ?_); refine L_store_all 23 _ _ (w18.heap.size) (kc (A)) _ 23 rfl rfl b_t (szK _) (kk_len _ _) (one_kc _) ?_; clear b_t; intro w20 t_ b_t; replace b_s := t_.blk b_s (Nat.ne_of_lt o_s_t); replace b_a := t_.blk b_a (Nat.ne_of_lt o_a_t); replace b_b := t_.blk b_b (Nat.ne_of_lt o_b_t); replace b_z := t_.blk b_z (Nat.ne_of_lt o_z_t); replace b_g := t_.blk b_g (Nat.ne_of_lt o_g_t); replace b_m := t_.blk b_m (Nat.ne_of_lt o_m_t); replace hB := t_.below hB l_hB_t; clear t_)
    | (refine stop_region 8 ?_; intro X hX))
  refine hX.out ?_
  clear hX X
  refine wp_region_fixed (by kernel_rfl) (by kernel_rfl) [.int .i64 (0), .bool true, .bool true, .int .i64 (0), .bool true, .bool true, .bool true, .int .i64 (1), .bool true, .bool true, .bool true, .int .i64 (0), .bool true, .bool true, .bool true, .agg (kc (B)).toArray, .agg (kc (A)).toArray, .agg (kc (A)).toArray, .bool true, .bool true, .bool true, .agg (kc (A)).toArray, .agg (kc (G)).toArray, .agg (kc (G)).toArray, .bool true, .bool true, .bool true, .agg (kc (A)).toArray, .agg (kc (B)).toArray, .int .i64 (0), .bool true, .bool true, .bool true, .agg (kc (A)).toArray, .agg (kc (B)).toArray, .int .i64 (16), .bool true, .bool true, .bool true, .agg (kc (A)).toArray, .agg (kc (A)).toArray, .int .i64 (13), .bool true, .bool true, .bool true, .agg (kc (A)).toArray, .agg (kc (A)).toArray, .int .i64 (1), .bool true, .bool true, .bool true, .agg (mc (B) (5)).toArray, .agg (kc (B)).toArray, .agg (mc (B) (5)).toArray, .bool true, .bool true, .bool true, .int .i64 (0), .bool true, .bool true, .bool true, .agg (kc (A)).toArray, .agg (kc (A)).toArray, .bool true, .bool true, .bool true, .int .i64 (0), .bool true, .bool true, .bool true, .agg (kc (A)).toArray, .agg (kc (U)).toArray, .agg (kc (A)).toArray, .agg (kc (U)).toArray, .bool true, .bool true, .bool true, .agg (kc (k1)).toArray, .agg (kc (V)).toArray, .agg (kc (k1)).toArray, .agg (kc (V)).toArray, .bool true, .bool true, .bool true, .bool true, .bool true] (by rfl) (fun w' => Below w20.heap.size w20 w') (Below.refl _ _).drew ?_ ?_
  · simp only [fullL, Act.put, List.setIfInBounds_toArray, List.set_cons_succ, List.set_cons_zero]
    refine ⟨?_, ?_, ?_, ?_, ?_, ?_, ?_, ?_, ?_, ?_, ?_, ?_, ?_, ?_, ?_, ?_, ?_, ?_, ?_, ?_, ?_, ?_, ?_, ?_, ?_, ?_, ?_, ?_, ?_, ?_, ?_, ?_, ?_, ?_, ?_, ?_, ?_, ?_, ?_, ?_, ?_, ?_, ?_, ?_, ?_, ?_, ?_, ?_, ?_, ?_, ?_, ?_, ?_, ?_, ?_, ?_, ?_, ?_, ?_, ?_, ?_, ?_, ?_, ?_, ?_, ?_, ?_, ?_, ?_, ?_, ?_, ?_, ?_, ?_, ?_, ?_, ?_, ?_, ?_, ?_, ?_, ?_, ?_, ?_, ?_, ?_, trivial⟩
    · exact fun wx hw => gw rfl (g_move _ _ rfl ⟨rfl, hw⟩)
    · exact fun wx hw => gw rfl (g_ieq 25 _ _ .i64 _ _ true rfl rfl (by decide) ⟨rfl, hw⟩)
    · exact fun wx hw => gw rfl (g_move _ _ rfl ⟨rfl, hw⟩)
    · exact fun wx hw => gw rfl (g_move _ _ rfl ⟨rfl, hw⟩)
    · exact fun wx hw => gw rfl (g_ieq 25 _ _ .i64 _ _ true rfl rfl (by decide) ⟨rfl, hw⟩)
    · exact fun wx hw => gw rfl (g_pickt _ _ _ _ rfl rfl ⟨rfl, hw⟩)
    · exact fun wx hw => gw rfl (g_move _ _ rfl ⟨rfl, hw⟩)
    · exact fun wx hw => gw rfl (g_move _ _ rfl ⟨rfl, hw⟩)
    · exact fun wx hw => gw rfl (g_ieq 25 _ _ .i64 _ _ true rfl rfl (by decide) ⟨rfl, hw⟩)
    · exact fun wx hw => gw rfl (g_pickt _ _ _ _ rfl rfl ⟨rfl, hw⟩)
    · exact fun wx hw => gw rfl (g_move _ _ rfl ⟨rfl, hw⟩)
    · exact fun wx hw => gw rfl (g_move _ _ rfl ⟨rfl, hw⟩)
    · exact fun wx hw => gw rfl (g_ieq 25 _ _ .i64 _ _ true rfl rfl (by decide) ⟨rfl, hw⟩)
    · exact fun wx hw => gw rfl (g_pickt _ _ _ _ rfl rfl ⟨rfl, hw⟩)
    · exact fun wx hw => gw rfl (g_move _ _ rfl ⟨rfl, hw⟩)
    · exact fun wx hw => gw rfl (g_load_all 23 _ (w6.heap.size) (kc (B)) 23 _ rfl ((b_b.below hw b_b.lt)) Tryd.underlying23 rfl (szK _) ⟨rfl, hw⟩)
    · exact fun wx hw => gw rfl (g_call 22 _ _ [.agg (kc (B)).toArray, .int .i64 (2)] (kf22 _ _) rfl (mono_val hw (rwalk_any B A 2 wx hW1)))
    · exact fun wx hw => gw rfl (g_load_all 23 _ (w3.heap.size) (kc (A)) 23 _ rfl ((b_a.below hw b_a.lt)) Tryd.underlying23 rfl (szK _) ⟨rfl, hw⟩)
    · exact fun wx hw => gw rfl (g_eqlK _ _ (A) (A) true rfl rfl (decide_eq_true rfl) ⟨rfl, hw⟩)
    · exact fun wx hw => gw rfl (g_pickt _ _ _ _ rfl rfl ⟨rfl, hw⟩)
    · exact fun wx hw => gw rfl (g_move _ _ rfl ⟨rfl, hw⟩)
    · exact fun wx hw => gw rfl (g_load_all 23 _ (w3.heap.size) (kc (A)) 23 _ rfl ((b_a.below hw b_a.lt)) Tryd.underlying23 rfl (szK _) ⟨rfl, hw⟩)
    · exact fun wx hw => gw rfl (g_call 22 _ _ [.agg (kc (A)).toArray, .int .i64 (3)] (kf22 _ _) rfl (mono_val hw (rwalk_any A G 3 wx hW2)))
    · exact fun wx hw => gw rfl (g_load_all 23 _ (w12.heap.size) (kc (G)) 23 _ rfl ((b_g.below hw b_g.lt)) Tryd.underlying23 rfl (szK _) ⟨rfl, hw⟩)
    · exact fun wx hw => gw rfl (g_eqlK _ _ (G) (G) true rfl rfl (decide_eq_true rfl) ⟨rfl, hw⟩)
    · exact fun wx hw => gw rfl (g_pickt _ _ _ _ rfl rfl ⟨rfl, hw⟩)
    · exact fun wx hw => gw rfl (g_move _ _ rfl ⟨rfl, hw⟩)
    · exact fun wx hw => gw rfl (g_load_all 23 _ (w3.heap.size) (kc (A)) 23 _ rfl ((b_a.below hw b_a.lt)) Tryd.underlying23 rfl (szK _) ⟨rfl, hw⟩)
    · exact fun wx hw => gw rfl (g_load_all 23 _ (w6.heap.size) (kc (B)) 23 _ rfl ((b_b.below hw b_b.lt)) Tryd.underlying23 rfl (szK _) ⟨rfl, hw⟩)
    · exact fun wx hw => gw rfl (g_call 16 _ _ [.agg (kc (A)).toArray, .int .i64 (3), .agg (kc (B)).toArray, .int .i64 (5), .int .i64 (4)] (kf16 _ _) rfl (mono_val hw (check_any A 3 B 5 4 wx ((hT.on hB).on hw) 0 (by decide) c1)))
    · exact fun wx hw => gw rfl (g_ieq 25 _ _ .i64 _ _ true rfl rfl (by decide) ⟨rfl, hw⟩)
    · exact fun wx hw => gw rfl (g_pickt _ _ _ _ rfl rfl ⟨rfl, hw⟩)
    · exact fun wx hw => gw rfl (g_move _ _ rfl ⟨rfl, hw⟩)
    · exact fun wx hw => gw rfl (g_load_all 23 _ (w3.heap.size) (kc (A)) 23 _ rfl ((b_a.below hw b_a.lt)) Tryd.underlying23 rfl (szK _) ⟨rfl, hw⟩)
    · exact fun wx hw => gw rfl (g_load_all 23 _ (w6.heap.size) (kc (B)) 23 _ rfl ((b_b.below hw b_b.lt)) Tryd.underlying23 rfl (szK _) ⟨rfl, hw⟩)
    · exact fun wx hw => gw rfl (g_call 16 _ _ [.agg (kc (A)).toArray, .int .i64 (3), .agg (kc (B)).toArray, .int .i64 (5), .int .i64 (1)] (kf16 _ _) rfl (mono_val hw (check_any A 3 B 5 1 wx ((hT.on hB).on hw) 16 (by decide) c2)))
    · exact fun wx hw => gw rfl (g_ieq 25 _ _ .i64 _ _ true rfl rfl (by decide) ⟨rfl, hw⟩)
    · exact fun wx hw => gw rfl (g_pickt _ _ _ _ rfl rfl ⟨rfl, hw⟩)
    · exact fun wx hw => gw rfl (g_move _ _ rfl ⟨rfl, hw⟩)
    · exact fun wx hw => gw rfl (g_load_all 23 _ (w3.heap.size) (kc (A)) 23 _ rfl ((b_a.below hw b_a.lt)) Tryd.underlying23 rfl (szK _) ⟨rfl, hw⟩)
    · exact fun wx hw => gw rfl (g_load_all 23 _ (w3.heap.size) (kc (A)) 23 _ rfl ((b_a.below hw b_a.lt)) Tryd.underlying23 rfl (szK _) ⟨rfl, hw⟩)
    · exact fun wx hw => gw rfl (g_call 16 _ _ [.agg (kc (A)).toArray, .int .i64 (3), .agg (kc (A)).toArray, .int .i64 (5), .int .i64 (4)] (kf16 _ _) rfl (mono_val hw (check_any A 3 A 5 4 wx ((hT.on hB).on hw) 13 (by decide) c3)))
    · exact fun wx hw => gw rfl (g_ieq 25 _ _ .i64 _ _ true rfl rfl (by decide) ⟨rfl, hw⟩)
    · exact fun wx hw => gw rfl (g_pickt _ _ _ _ rfl rfl ⟨rfl, hw⟩)
    · exact fun wx hw => gw rfl (g_move _ _ rfl ⟨rfl, hw⟩)
    · exact fun wx hw => gw rfl (g_load_all 23 _ (w3.heap.size) (kc (A)) 23 _ rfl ((b_a.below hw b_a.lt)) Tryd.underlying23 rfl (szK _) ⟨rfl, hw⟩)
    · exact fun wx hw => gw rfl (g_load_all 23 _ (w3.heap.size) (kc (A)) 23 _ rfl ((b_a.below hw b_a.lt)) Tryd.underlying23 rfl (szK _) ⟨rfl, hw⟩)
    · exact fun wx hw => gw rfl (g_call 16 _ _ [.agg (kc (A)).toArray, .int .i64 (3), .agg (kc (A)).toArray, .int .i64 (3), .int .i64 (4)] (kf16 _ _) rfl (mono_val hw (check_any A 3 A 3 4 wx ((hT.on hB).on hw) 1 (by decide) c4)))
    · exact fun wx hw => gw rfl (g_ieq 25 _ _ .i64 _ _ true rfl rfl (by decide) ⟨rfl, hw⟩)
    · exact fun wx hw => gw rfl (g_pickt _ _ _ _ rfl rfl ⟨rfl, hw⟩)
    · exact fun wx hw => gw rfl (g_move _ _ rfl ⟨rfl, hw⟩)
    · exact fun wx hw => gw rfl (g_load_all 34 _ (w15.heap.size) (mc (B) (5)) 34 _ rfl ((b_m.below hw b_m.lt)) Tryd.underlying34 rfl (szM _ _) ⟨rfl, hw⟩)
    · exact fun wx hw => gw rfl (g_load_all 23 _ (w6.heap.size) (kc (B)) 23 _ rfl ((b_b.below hw b_b.lt)) Tryd.underlying23 rfl (szK _) ⟨rfl, hw⟩)
    · exact fun wx hw => gw rfl (g_bldM _ _ (B) (5) rfl rfl ⟨rfl, hw⟩)
    · exact fun wx hw => gw rfl (g_eqlM _ _ (B) (B) (5) (5) true rfl rfl (decide_eq_true ⟨rfl, rfl⟩) ⟨rfl, hw⟩)
    · exact fun wx hw => gw rfl (g_pickt _ _ _ _ rfl rfl ⟨rfl, hw⟩)
    · exact fun wx hw => gw rfl (g_move _ _ rfl ⟨rfl, hw⟩)
    · exact fun wx hw => gw rfl (g_move _ _ rfl ⟨rfl, hw⟩)
    · exact fun wx hw => gw rfl (g_ieq 25 _ _ .i64 _ _ true rfl rfl (by decide) ⟨rfl, hw⟩)
    · exact fun wx hw => gw rfl (g_pickt _ _ _ _ rfl rfl ⟨rfl, hw⟩)
    · exact fun wx hw => gw rfl (g_move _ _ rfl ⟨rfl, hw⟩)
    · exact fun wx hw => gw rfl (g_load_all 23 _ (w18.heap.size) (kc (A)) 23 _ rfl ((b_t.below hw b_t.lt)) Tryd.underlying23 rfl (szK _) ⟨rfl, hw⟩)
    · exact fun wx hw => gw rfl (g_load_all 23 _ (w3.heap.size) (kc (A)) 23 _ rfl ((b_a.below hw b_a.lt)) Tryd.underlying23 rfl (szK _) ⟨rfl, hw⟩)
    · exact fun wx hw => gw rfl (g_eqlK _ _ (A) (A) true rfl rfl (decide_eq_true rfl) ⟨rfl, hw⟩)
    · exact fun wx hw => gw rfl (g_pickt _ _ _ _ rfl rfl ⟨rfl, hw⟩)
    · exact fun wx hw => gw rfl (g_move _ _ rfl ⟨rfl, hw⟩)
    · exact fun wx hw => gw rfl (g_move _ _ rfl ⟨rfl, hw⟩)
    · exact fun wx hw => gw rfl (g_ieq 25 _ _ .i64 _ _ true rfl rfl (by decide) ⟨rfl, hw⟩)
    · exact fun wx hw => gw rfl (g_pickt _ _ _ _ rfl rfl ⟨rfl, hw⟩)
    · exact fun wx hw => gw rfl (g_move _ _ rfl ⟨rfl, hw⟩)
    · exact fun wx hw => gw rfl (g_load_all 23 _ (w3.heap.size) (kc (A)) 23 _ rfl ((b_a.below hw b_a.lt)) Tryd.underlying23 rfl (szK _) ⟨rfl, hw⟩)
    · exact fun wx hw => gw rfl (g_call 13 _ _ [.agg (kc (A)).toArray] (kf13 _ _) rfl (mono_val hw (tagger_any A U wx ((hT.on hB).on hw) hU)))
    · exact fun wx hw => gw rfl (g_load_all 23 _ (w3.heap.size) (kc (A)) 23 _ rfl ((b_a.below hw b_a.lt)) Tryd.underlying23 rfl (szK _) ⟨rfl, hw⟩)
    · exact fun wx hw => gw rfl (g_call 14 _ _ [.agg (kc (A)).toArray, .string (⟨#[116, 97, 103]⟩)] (kf14 _ _) rfl (mono_val hw (mrof_any A U ⟨#[116, 97, 103]⟩ wx (by decide) hU)))
    · exact fun wx hw => gw rfl (g_eqlK _ _ (U) (U) true rfl rfl (decide_eq_true rfl) ⟨rfl, hw⟩)
    · exact fun wx hw => gw rfl (g_pickt _ _ _ _ rfl rfl ⟨rfl, hw⟩)
    · exact fun wx hw => gw rfl (g_move _ _ rfl ⟨rfl, hw⟩)
    · exact fun wx hw => gw rfl (g_load_all 23 _ (w.heap.size) (kc (k1)) 23 _ rfl ((b_s.below hw b_s.lt)) Tryd.underlying23 rfl (szK _) ⟨rfl, hw⟩)
    · exact fun wx hw => gw rfl (g_call 15 _ _ [.agg (kc (k1)).toArray] (kf15 _ _) rfl (mono_val hw (next_any k1 V wx ((hT.on hB).on hw) hV)))
    · exact fun wx hw => gw rfl (g_load_all 23 _ (w.heap.size) (kc (k1)) 23 _ rfl ((b_s.below hw b_s.lt)) Tryd.underlying23 rfl (szK _) ⟨rfl, hw⟩)
    · exact fun wx hw => gw rfl (g_call 14 _ _ [.agg (kc (k1)).toArray, .string (⟨#[115, 101, 101, 100]⟩)] (kf14 _ _) rfl (mono_val hw (mrof_any k1 V ⟨#[115, 101, 101, 100]⟩ wx (by decide) hV)))
    · exact fun wx hw => gw rfl (g_eqlK _ _ (V) (V) true rfl rfl (decide_eq_true rfl) ⟨rfl, hw⟩)
    · exact fun wx hw => gw rfl (g_pickt _ _ _ _ rfl rfl ⟨rfl, hw⟩)
    · exact fun wx hw => gw rfl (g_move _ _ rfl ⟨rfl, hw⟩)
    · exact fun wx hw => gw rfl (g_pickt _ _ _ _ rfl rfl ⟨rfl, hw⟩)
    · exact fun wx hw => gw rfl (g_assign _ _ rfl ⟨rfl, hw⟩)
  · simp only [fullL, Act.put, List.setIfInBounds_toArray, List.set_cons_succ, List.set_cons_zero]
    intro w21 t_
    replace b_s := b_s.below t_ b_s.lt
    replace b_a := b_a.below t_ b_a.lt
    replace b_b := b_b.below t_ b_b.lt
    replace b_z := b_z.below t_ b_z.lt
    replace b_g := b_g.below t_ b_g.lt
    replace b_m := b_m.below t_ b_m.lt
    replace b_t := b_t.below t_ b_t.lt
    replace hB := hB.trans (t_.mono hB.size)
    clear t_
    go_wp2_with fail
    go_ret
    exact ⟨rfl, hB⟩
theorem ky_ok (s : Ky) (n i : Int) (h1 : 1 ≤ n) (h2 : n ≤ 1024) (h3 : 0 ≤ i) (h4 : i ≤ n) : ky s n i = (wl (n - i).toNat (tg s chainW), 0) := by
  unfold ky tl
  rw [if_neg (by omega), if_neg (by omega), show min (n - i) 4096 = n - i by omega]
theorem tl_ok (k : Ky) (n i : Int) (h2 : n ≤ 4096) (h3 : 0 ≤ i) (h4 : i ≤ n) : tl k n i = (wl (n - i).toNat k, 0) := by
  unfold tl
  rw [if_neg (by omega), show min (n - i) 4096 = n - i by omega]
theorem ck_ok (k0 : Ky) (p : Int) (k : Ky) (i f : Int) (h1 : 0 ≤ p) (h2 : p < i) (h3 : i - p ≤ f) (h4 : i - p ≤ 1024) (h : wl (i - p).toNat k = k0) : ck k0 p k i f = 0 := by
  unfold ck
  rw [if_neg (by omega), if_neg (by omega), if_pos (by rw [h])]
theorem ln_ok (k0 : Ky) (p : Int) (k : Ky) (i f : Int) (h1 : 0 ≤ p) (h2 : p < i) (h3 : i - p ≤ f) (h4 : i - p ≤ 1024) (h : wl (i - p).toNat k = k0) : ln k0 p k i f = ((k, i), 0) := by
  unfold ln
  rw [if_pos (ck_ok k0 p k i f h1 h2 h3 h4 h)]
theorem awake_any (w : World) (hT : Tabs w) : Calls Tryd.prog 9 #[] w fun e w' => e = .returned (.bool true) ∧ Below w.heap.size w w' := by
  refine awake_core w hT (wl 6 (tg k1 chainW)) (wl 4 (tg k1 chainW)) (wl 9 (tg k1 chainW)) _ _ ⟨ky_ok k1 9 3 (by decide) (by decide) (by decide) (by decide)⟩ ⟨ky_ok k1 9 5 (by decide) (by decide) (by decide) (by decide)⟩ ⟨?_⟩ ⟨ky_ok k1 9 0 (by decide) (by decide) (by decide) (by decide)⟩ ⟨ln_ok _ 0 _ 5 9 (by decide) (by decide) (by decide) (by decide) (wl_add 5 4 _)⟩ ⟨(tl_ok _ 5 3 (by decide) (by decide) (by decide)).trans ?_⟩ ⟨wl_add 2 4 _⟩ ⟨wl_add 3 6 _⟩ ⟨ck_ok _ 3 _ 5 4 (by decide) (by decide) (by decide) (by decide) (wl_add 2 4 _)⟩ ⟨?_⟩ ⟨?_⟩ ⟨?_⟩ ⟨rfl⟩ ⟨rfl⟩
  · unfold ky; rw [if_neg (by decide)]; unfold tl; rw [if_pos (by decide)]
  · rw [show ((5 : Int) - 3).toNat = 2 from rfl, wl_add]
  · unfold ck; rw [if_neg (by decide), if_pos (by decide)]
  · unfold ck; rw [if_neg (by decide), if_neg (by decide), if_neg]; exact loop_not
  · unfold ck; rw [if_pos (by decide)]
end Go.Proofs.YtcenaklbfdhimaaDoor
