/- awake: what the calls that each law asks first answer. -/
import Derived.Test.YtdfpnicpcndkjaaDoorPb4
import Derived.WalkKit
import Derived.WalkSpells
import Derived.WalkLawsBesides
namespace Go.Proofs.YtdfpnicpcndkjaaDoor
set_option maxRecDepth 10000
open Go Go.RowKit
set_option linter.unusedVariables false
set_option linter.unusedSimpArgs false

set_option maxHeartbeats 4000000 in
theorem awake_core (w : World) (hT : Tabs w) (L A B C : Ky) (hL : Shut (tg k1 ⟨#[99, 104, 97, 105, 110]⟩ = L)) (hA : Shut (nx 2 L 0 = ((A, 0), 1))) (hB : Shut (nx 2 L 1 = ((B, 0), 2))) (hC : Shut (nx 2 L 2 = ((C, 0), 3))) (hD : Shut (nx 2 L 3 = ((zk, 10), 3))) (hX : Shut (ky k1 2 0 = (A, 0))) (hY : Shut (ky k1 2 1 = (B, 0))) (hZ : Shut (ky k1 2 2 = (C, 0))) : Calls Tryd.prog 9 #[] w fun e w' => e = .returned (.bool true) ∧ Below w.heap.size w w' := by
  have hM := Ms.refl w
  go_enter Tryd.func9, Tryd.ntmps9
  refine wp_seq_k (fun K1 hK1 => ?_)
  refine wl_region ?_
  refine wl_give rfl (g_assign _ (.bool false) rfl ?_)
  (try simp only [Act.put, List.setIfInBounds_toArray, List.set_cons_zero, List.set_cons_succ])
  refine wl_nil ?_
  refine hK1 _ _ ?_
  (try clear hK1 K1)
  refine wp_seq_k (fun K2 hK2 => ?_)
  refine wl_region ?_
  refine wl_give rfl (g_bldK1 ?_)
  (try simp only [Act.put, List.setIfInBounds_toArray, List.set_cons_zero, List.set_cons_succ])
  refine wl_give rfl (g_call 10 _ _ [.agg (kc (k1)).toArray, .int .i64 (2)] (kf10 _ _) rfl ((wnew_any k1 (2) L w w _ hM hT (by decide) (by decide) hL).mono ?_))
  rintro e w3 ⟨p4, rfl, h_⟩
  refine ⟨_, rfl, ?_⟩
  replace hM : Ms w w3 [wk p4 (2) L (0) 1] := h_
  clear h_
  (try simp only [Act.put, List.setIfInBounds_toArray, List.set_cons_zero, List.set_cons_succ])
  refine wl_give rfl (g_move _ (.tuple #[.pointer (some ⟨p4, 0, none⟩), .int .i64 (0)]) rfl ?_)
  (try simp only [Act.put, List.setIfInBounds_toArray, List.set_cons_zero, List.set_cons_succ])
  refine wl_give rfl (g_extract _ #[.pointer (some ⟨p4, 0, none⟩), .int .i64 (0)] 0 (.pointer (some ⟨p4, 0, none⟩)) rfl rfl ?_)
  (try simp only [Act.put, List.setIfInBounds_toArray, List.set_cons_zero, List.set_cons_succ])
  refine wl_give rfl (g_extract _ #[.pointer (some ⟨p4, 0, none⟩), .int .i64 (0)] 1 (.int .i64 (0)) rfl rfl ?_)
  (try simp only [Act.put, List.setIfInBounds_toArray, List.set_cons_zero, List.set_cons_succ])
  refine wl_give rfl (g_assign _ (.pointer (some ⟨p4, 0, none⟩)) rfl ?_)
  (try simp only [Act.put, List.setIfInBounds_toArray, List.set_cons_zero, List.set_cons_succ])
  refine wl_give rfl (g_assign _ (.int .i64 (0)) rfl ?_)
  (try simp only [Act.put, List.setIfInBounds_toArray, List.set_cons_zero, List.set_cons_succ])
  refine wl_nil ?_
  refine hK2 _ _ ?_
  (try clear hK2 K2)
  refine wp_seq_k (fun K5 hK5 => ?_)
  refine wl_region ?_
  refine wl_give rfl (g_bldK1 ?_)
  (try simp only [Act.put, List.setIfInBounds_toArray, List.set_cons_zero, List.set_cons_succ])
  refine wl_give rfl (g_call 10 _ _ [.agg (kc (k1)).toArray, .int .i64 (0)] (kf10 _ _) rfl ((new_bad k1 0 w3 (.inl (by decide))).mono ?_))
  rintro e w6 ⟨rfl, t_⟩
  refine ⟨_, rfl, ?_⟩
  replace hM := hM.call t_
  clear t_
  (try simp only [Act.put, List.setIfInBounds_toArray, List.set_cons_zero, List.set_cons_succ])
  refine wl_give rfl (g_move _ (.tuple #[.pointer none, .int .i64 (1)]) rfl ?_)
  (try simp only [Act.put, List.setIfInBounds_toArray, List.set_cons_zero, List.set_cons_succ])
  refine wl_give rfl (g_extract _ #[.pointer none, .int .i64 (1)] 0 (.pointer none) rfl rfl ?_)
  (try simp only [Act.put, List.setIfInBounds_toArray, List.set_cons_zero, List.set_cons_succ])
  refine wl_give rfl (g_extract _ #[.pointer none, .int .i64 (1)] 1 (.int .i64 (1)) rfl rfl ?_)
  (try simp only [Act.put, List.setIfInBounds_toArray, List.set_cons_zero, List.set_cons_succ])
  refine wl_give rfl (g_assign _ (.pointer none) rfl ?_)
  (try simp only [Act.put, List.setIfInBounds_toArray, List.set_cons_zero, List.set_cons_succ])
  refine wl_give rfl (g_assign _ (.int .i64 (1)) rfl ?_)
  (try simp only [Act.put, List.setIfInBounds_toArray, List.set_cons_zero, List.set_cons_succ])
  refine wl_nil ?_
  refine hK5 _ _ ?_
  (try clear hK5 K5)
  refine wp_seq_k (fun K7 hK7 => ?_)
  refine wp_seq_k (fun K8 hK8 => ?_)
  refine wl_region ?_
  refine wl_give rfl (g_move _ (.pointer (some ⟨p4, 0, none⟩)) rfl ?_)
  (try simp only [Act.put, List.setIfInBounds_toArray, List.set_cons_zero, List.set_cons_succ])
  refine wl_give rfl (g_peq _ ((some ⟨p4, 0, none⟩)) false rfl rfl ?_)
  (try simp only [Act.put, List.setIfInBounds_toArray, List.set_cons_zero, List.set_cons_succ])
  refine wl_nil ?_
  refine hK8 _ _ ?_
  (try clear hK8 K8)
  refine wp_cond_false rfl ?_
  refine wp_skip ?_
  refine hK7 _ _ ?_
  (try clear hK7 K7)
  refine wp_seq_k (fun K9 hK9 => ?_)
  refine wl_region ?_
  refine wl_give rfl (g_move _ (.pointer (some ⟨p4, 0, none⟩)) rfl ?_)
  (try simp only [Act.put, List.setIfInBounds_toArray, List.set_cons_zero, List.set_cons_succ])
  refine wl_give rfl (g_call 12 _ _ [.pointer (some ⟨p4, 0, none⟩)] (kf12 _ _) rfl ((wleft_any hM (3) ⟨rfl⟩).mono ?_))
  rintro e w10 ⟨rfl, t_⟩
  refine ⟨_, rfl, ?_⟩
  replace hM := hM.call t_
  clear t_
  (try simp only [Act.put, List.setIfInBounds_toArray, List.set_cons_zero, List.set_cons_succ])
  refine wl_give rfl (g_assign _ (.int .i64 (3)) rfl ?_)
  (try simp only [Act.put, List.setIfInBounds_toArray, List.set_cons_zero, List.set_cons_succ])
  refine wl_nil ?_
  refine hK9 _ _ ?_
  (try clear hK9 K9)
  refine wp_seq_k (fun K11 hK11 => ?_)
  refine wl_region ?_
  refine wl_give rfl (g_move _ (.pointer (some ⟨p4, 0, none⟩)) rfl ?_)
  (try simp only [Act.put, List.setIfInBounds_toArray, List.set_cons_zero, List.set_cons_succ])
  refine wl_give rfl (g_call 15 _ _ [.pointer (some ⟨p4, 0, none⟩)] (kf15 _ _) rfl ((pnext_any hM hT A 0 (1) hA).mono ?_))
  rintro e w12 ⟨m13, rfl, h_⟩
  refine ⟨_, rfl, ?_⟩
  replace hM : Ms w w12 [wk p4 (2) L (1) m13] := h_
  clear h_
  (try simp only [Act.put, List.setIfInBounds_toArray, List.set_cons_zero, List.set_cons_succ])
  refine wl_give rfl (g_move _ (.tuple #[.agg (kc (A)).toArray, .int .i64 (0)]) rfl ?_)
  (try simp only [Act.put, List.setIfInBounds_toArray, List.set_cons_zero, List.set_cons_succ])
  refine wl_give rfl (g_extract _ #[.agg (kc (A)).toArray, .int .i64 (0)] 0 (.agg (kc (A)).toArray) rfl rfl ?_)
  (try simp only [Act.put, List.setIfInBounds_toArray, List.set_cons_zero, List.set_cons_succ])
  refine wl_give rfl (g_extract _ #[.agg (kc (A)).toArray, .int .i64 (0)] 1 (.int .i64 (0)) rfl rfl ?_)
  (try simp only [Act.put, List.setIfInBounds_toArray, List.set_cons_zero, List.set_cons_succ])
  refine wl_give rfl (g_alloc 23 (kc (zk)) zeroK ?_)
  intro w14 t_ b_
  replace hM : Ms w w14 [blk (w12.heap.size) (kc (zk)) 23, wk p4 (2) L (1) m13] := hM.new t_ b_
  clear t_ b_
  (try simp only [Act.put, List.setIfInBounds_toArray, List.set_cons_zero, List.set_cons_succ])
  refine wl_give rfl (g_store_all 23 _ _ (w12.heap.size) (kc (A)) _ 23 rfl rfl (hM.get 0 rfl) (szK _) (kk_len _ _) (one_kc _) ?_)
  intro w15 t_ b_
  replace hM : Ms w w15 [blk (w12.heap.size) (kc (A)) 23, wk p4 (2) L (1) m13] := hM.put 0 rfl t_ b_
  clear t_ b_
  (try simp only [Act.put, List.setIfInBounds_toArray, List.set_cons_zero, List.set_cons_succ])
  refine wl_give rfl (g_assign _ (.int .i64 (0)) rfl ?_)
  (try simp only [Act.put, List.setIfInBounds_toArray, List.set_cons_zero, List.set_cons_succ])
  refine wl_nil ?_
  refine hK11 _ _ ?_
  (try clear hK11 K11)
  refine wp_seq_k (fun K16 hK16 => ?_)
  refine wl_region ?_
  refine wl_give rfl (g_move _ (.pointer (some ⟨p4, 0, none⟩)) rfl ?_)
  (try simp only [Act.put, List.setIfInBounds_toArray, List.set_cons_zero, List.set_cons_succ])
  refine wl_give rfl (g_call 15 _ _ [.pointer (some ⟨p4, 0, none⟩)] (kf15 _ _) rfl ((pnext_any (show Ms w w15 [wk p4 (2) L (1) m13, blk (w12.heap.size) (kc (A)) 23] from (hM.up 1 rfl)) hT B 0 (2) hB).mono ?_))
  rintro e w17 ⟨m18, rfl, h_⟩
  refine ⟨_, rfl, ?_⟩
  replace hM : Ms w w17 [wk p4 (2) L (2) m18, blk (w12.heap.size) (kc (A)) 23] := h_
  clear h_
  (try simp only [Act.put, List.setIfInBounds_toArray, List.set_cons_zero, List.set_cons_succ])
  refine wl_give rfl (g_move _ (.tuple #[.agg (kc (B)).toArray, .int .i64 (0)]) rfl ?_)
  (try simp only [Act.put, List.setIfInBounds_toArray, List.set_cons_zero, List.set_cons_succ])
  refine wl_give rfl (g_extract _ #[.agg (kc (B)).toArray, .int .i64 (0)] 0 (.agg (kc (B)).toArray) rfl rfl ?_)
  (try simp only [Act.put, List.setIfInBounds_toArray, List.set_cons_zero, List.set_cons_succ])
  refine wl_give rfl (g_extract _ #[.agg (kc (B)).toArray, .int .i64 (0)] 1 (.int .i64 (0)) rfl rfl ?_)
  (try simp only [Act.put, List.setIfInBounds_toArray, List.set_cons_zero, List.set_cons_succ])
  refine wl_give rfl (g_alloc 23 (kc (zk)) zeroK ?_)
  intro w19 t_ b_
  replace hM : Ms w w19 [blk (w17.heap.size) (kc (zk)) 23, wk p4 (2) L (2) m18, blk (w12.heap.size) (kc (A)) 23] := hM.new t_ b_
  clear t_ b_
  (try simp only [Act.put, List.setIfInBounds_toArray, List.set_cons_zero, List.set_cons_succ])
  refine wl_give rfl (g_store_all 23 _ _ (w17.heap.size) (kc (B)) _ 23 rfl rfl (hM.get 0 rfl) (szK _) (kk_len _ _) (one_kc _) ?_)
  intro w20 t_ b_
  replace hM : Ms w w20 [blk (w17.heap.size) (kc (B)) 23, wk p4 (2) L (2) m18, blk (w12.heap.size) (kc (A)) 23] := hM.put 0 rfl t_ b_
  clear t_ b_
  (try simp only [Act.put, List.setIfInBounds_toArray, List.set_cons_zero, List.set_cons_succ])
  refine wl_give rfl (g_assign _ (.int .i64 (0)) rfl ?_)
  (try simp only [Act.put, List.setIfInBounds_toArray, List.set_cons_zero, List.set_cons_succ])
  refine wl_nil ?_
  refine hK16 _ _ ?_
  (try clear hK16 K16)
  refine wp_seq_k (fun K21 hK21 => ?_)
  refine wl_region ?_
  refine wl_give rfl (g_move _ (.pointer (some ⟨p4, 0, none⟩)) rfl ?_)
  (try simp only [Act.put, List.setIfInBounds_toArray, List.set_cons_zero, List.set_cons_succ])
  refine wl_give rfl (g_call 15 _ _ [.pointer (some ⟨p4, 0, none⟩)] (kf15 _ _) rfl ((pnext_any (show Ms w w20 [wk p4 (2) L (2) m18, blk (w17.heap.size) (kc (B)) 23, blk (w12.heap.size) (kc (A)) 23] from (hM.up 1 rfl)) hT C 0 (3) hC).mono ?_))
  rintro e w22 ⟨m23, rfl, h_⟩
  refine ⟨_, rfl, ?_⟩
  replace hM : Ms w w22 [wk p4 (2) L (3) m23, blk (w17.heap.size) (kc (B)) 23, blk (w12.heap.size) (kc (A)) 23] := h_
  clear h_
  (try simp only [Act.put, List.setIfInBounds_toArray, List.set_cons_zero, List.set_cons_succ])
  refine wl_give rfl (g_move _ (.tuple #[.agg (kc (C)).toArray, .int .i64 (0)]) rfl ?_)
  (try simp only [Act.put, List.setIfInBounds_toArray, List.set_cons_zero, List.set_cons_succ])
  refine wl_give rfl (g_extract _ #[.agg (kc (C)).toArray, .int .i64 (0)] 0 (.agg (kc (C)).toArray) rfl rfl ?_)
  (try simp only [Act.put, List.setIfInBounds_toArray, List.set_cons_zero, List.set_cons_succ])
  refine wl_give rfl (g_extract _ #[.agg (kc (C)).toArray, .int .i64 (0)] 1 (.int .i64 (0)) rfl rfl ?_)
  (try simp only [Act.put, List.setIfInBounds_toArray, List.set_cons_zero, List.set_cons_succ])
  refine wl_give rfl (g_alloc 23 (kc (zk)) zeroK ?_)
  intro w24 t_ b_
  replace hM : Ms w w24 [blk (w22.heap.size) (kc (zk)) 23, wk p4 (2) L (3) m23, blk (w17.heap.size) (kc (B)) 23, blk (w12.heap.size) (kc (A)) 23] := hM.new t_ b_
  clear t_ b_
  (try simp only [Act.put, List.setIfInBounds_toArray, List.set_cons_zero, List.set_cons_succ])
  refine wl_give rfl (g_store_all 23 _ _ (w22.heap.size) (kc (C)) _ 23 rfl rfl (hM.get 0 rfl) (szK _) (kk_len _ _) (one_kc _) ?_)
  intro w25 t_ b_
  replace hM : Ms w w25 [blk (w22.heap.size) (kc (C)) 23, wk p4 (2) L (3) m23, blk (w17.heap.size) (kc (B)) 23, blk (w12.heap.size) (kc (A)) 23] := hM.put 0 rfl t_ b_
  clear t_ b_
  (try simp only [Act.put, List.setIfInBounds_toArray, List.set_cons_zero, List.set_cons_succ])
  refine wl_give rfl (g_assign _ (.int .i64 (0)) rfl ?_)
  (try simp only [Act.put, List.setIfInBounds_toArray, List.set_cons_zero, List.set_cons_succ])
  refine wl_nil ?_
  refine hK21 _ _ ?_
  (try clear hK21 K21)
  refine wp_seq_k (fun K26 hK26 => ?_)
  refine wl_region ?_
  refine wl_give rfl (g_move _ (.pointer (some ⟨p4, 0, none⟩)) rfl ?_)
  (try simp only [Act.put, List.setIfInBounds_toArray, List.set_cons_zero, List.set_cons_succ])
  refine wl_give rfl (g_call 15 _ _ [.pointer (some ⟨p4, 0, none⟩)] (kf15 _ _) rfl ((pnext_any (show Ms w w25 [wk p4 (2) L (3) m23, blk (w22.heap.size) (kc (C)) 23, blk (w17.heap.size) (kc (B)) 23, blk (w12.heap.size) (kc (A)) 23] from (hM.up 1 rfl)) hT zk 10 (3) hD).mono ?_))
  rintro e w27 ⟨m28, rfl, h_⟩
  refine ⟨_, rfl, ?_⟩
  replace hM : Ms w w27 [wk p4 (2) L (3) m28, blk (w22.heap.size) (kc (C)) 23, blk (w17.heap.size) (kc (B)) 23, blk (w12.heap.size) (kc (A)) 23] := h_
  clear h_
  (try simp only [Act.put, List.setIfInBounds_toArray, List.set_cons_zero, List.set_cons_succ])
  refine wl_give rfl (g_move _ (.tuple #[.agg (kc (zk)).toArray, .int .i64 (10)]) rfl ?_)
  (try simp only [Act.put, List.setIfInBounds_toArray, List.set_cons_zero, List.set_cons_succ])
  refine wl_give rfl (g_extract _ #[.agg (kc (zk)).toArray, .int .i64 (10)] 0 (.agg (kc (zk)).toArray) rfl rfl ?_)
  (try simp only [Act.put, List.setIfInBounds_toArray, List.set_cons_zero, List.set_cons_succ])
  refine wl_give rfl (g_extract _ #[.agg (kc (zk)).toArray, .int .i64 (10)] 1 (.int .i64 (10)) rfl rfl ?_)
  (try simp only [Act.put, List.setIfInBounds_toArray, List.set_cons_zero, List.set_cons_succ])
  refine wl_give rfl (g_alloc 23 (kc (zk)) zeroK ?_)
  intro w29 t_ b_
  replace hM : Ms w w29 [blk (w27.heap.size) (kc (zk)) 23, wk p4 (2) L (3) m28, blk (w22.heap.size) (kc (C)) 23, blk (w17.heap.size) (kc (B)) 23, blk (w12.heap.size) (kc (A)) 23] := hM.new t_ b_
  clear t_ b_
  (try simp only [Act.put, List.setIfInBounds_toArray, List.set_cons_zero, List.set_cons_succ])
  refine wl_give rfl (g_store_all 23 _ _ (w27.heap.size) (kc (zk)) _ 23 rfl rfl (hM.get 0 rfl) (szK _) (kk_len _ _) (one_kc _) ?_)
  intro w30 t_ b_
  replace hM : Ms w w30 [blk (w27.heap.size) (kc (zk)) 23, wk p4 (2) L (3) m28, blk (w22.heap.size) (kc (C)) 23, blk (w17.heap.size) (kc (B)) 23, blk (w12.heap.size) (kc (A)) 23] := hM.put 0 rfl t_ b_
  clear t_ b_
  (try simp only [Act.put, List.setIfInBounds_toArray, List.set_cons_zero, List.set_cons_succ])
  refine wl_give rfl (g_assign _ (.int .i64 (10)) rfl ?_)
  (try simp only [Act.put, List.setIfInBounds_toArray, List.set_cons_zero, List.set_cons_succ])
  refine wl_nil ?_
  refine hK26 _ _ ?_
  (try clear hK26 K26)
  refine wp_seq_k (fun K31 hK31 => ?_)
  refine wl_region ?_
  refine wl_give rfl (g_bldK1 ?_)
  (try simp only [Act.put, List.setIfInBounds_toArray, List.set_cons_zero, List.set_cons_succ])
  refine wl_give rfl (g_call 19 _ _ [.agg (kc (k1)).toArray, .int .i64 (2), .int .i64 (0)] (kf19 _ _) rfl ((rckey_any k1 (2) (0) w30 A 0 hX).mono ?_))
  rintro e w32 ⟨rfl, t_⟩
  refine ⟨_, rfl, ?_⟩
  replace hM := hM.call t_
  clear t_
  (try simp only [Act.put, List.setIfInBounds_toArray, List.set_cons_zero, List.set_cons_succ])
  refine wl_give rfl (g_move _ (.tuple #[.agg (kc (A)).toArray, .int .i64 (0)]) rfl ?_)
  (try simp only [Act.put, List.setIfInBounds_toArray, List.set_cons_zero, List.set_cons_succ])
  refine wl_give rfl (g_extract _ #[.agg (kc (A)).toArray, .int .i64 (0)] 0 (.agg (kc (A)).toArray) rfl rfl ?_)
  (try simp only [Act.put, List.setIfInBounds_toArray, List.set_cons_zero, List.set_cons_succ])
  refine wl_give rfl (g_extract _ #[.agg (kc (A)).toArray, .int .i64 (0)] 1 (.int .i64 (0)) rfl rfl ?_)
  (try simp only [Act.put, List.setIfInBounds_toArray, List.set_cons_zero, List.set_cons_succ])
  refine wl_give rfl (g_alloc 23 (kc (zk)) zeroK ?_)
  intro w33 t_ b_
  replace hM : Ms w w33 [blk (w32.heap.size) (kc (zk)) 23, blk (w27.heap.size) (kc (zk)) 23, wk p4 (2) L (3) m28, blk (w22.heap.size) (kc (C)) 23, blk (w17.heap.size) (kc (B)) 23, blk (w12.heap.size) (kc (A)) 23] := hM.new t_ b_
  clear t_ b_
  (try simp only [Act.put, List.setIfInBounds_toArray, List.set_cons_zero, List.set_cons_succ])
  refine wl_give rfl (g_store_all 23 _ _ (w32.heap.size) (kc (A)) _ 23 rfl rfl (hM.get 0 rfl) (szK _) (kk_len _ _) (one_kc _) ?_)
  intro w34 t_ b_
  replace hM : Ms w w34 [blk (w32.heap.size) (kc (A)) 23, blk (w27.heap.size) (kc (zk)) 23, wk p4 (2) L (3) m28, blk (w22.heap.size) (kc (C)) 23, blk (w17.heap.size) (kc (B)) 23, blk (w12.heap.size) (kc (A)) 23] := hM.put 0 rfl t_ b_
  clear t_ b_
  (try simp only [Act.put, List.setIfInBounds_toArray, List.set_cons_zero, List.set_cons_succ])
  refine wl_give rfl (g_assign _ (.int .i64 (0)) rfl ?_)
  (try simp only [Act.put, List.setIfInBounds_toArray, List.set_cons_zero, List.set_cons_succ])
  refine wl_nil ?_
  refine hK31 _ _ ?_
  (try clear hK31 K31)
  refine wp_seq_k (fun K35 hK35 => ?_)
  refine wl_region ?_
  refine wl_give rfl (g_bldK1 ?_)
  (try simp only [Act.put, List.setIfInBounds_toArray, List.set_cons_zero, List.set_cons_succ])
  refine wl_give rfl (g_call 19 _ _ [.agg (kc (k1)).toArray, .int .i64 (2), .int .i64 (1)] (kf19 _ _) rfl ((rckey_any k1 (2) (1) w34 B 0 hY).mono ?_))
  rintro e w36 ⟨rfl, t_⟩
  refine ⟨_, rfl, ?_⟩
  replace hM := hM.call t_
  clear t_
  (try simp only [Act.put, List.setIfInBounds_toArray, List.set_cons_zero, List.set_cons_succ])
  refine wl_give rfl (g_move _ (.tuple #[.agg (kc (B)).toArray, .int .i64 (0)]) rfl ?_)
  (try simp only [Act.put, List.setIfInBounds_toArray, List.set_cons_zero, List.set_cons_succ])
  refine wl_give rfl (g_extract _ #[.agg (kc (B)).toArray, .int .i64 (0)] 0 (.agg (kc (B)).toArray) rfl rfl ?_)
  (try simp only [Act.put, List.setIfInBounds_toArray, List.set_cons_zero, List.set_cons_succ])
  refine wl_give rfl (g_extract _ #[.agg (kc (B)).toArray, .int .i64 (0)] 1 (.int .i64 (0)) rfl rfl ?_)
  (try simp only [Act.put, List.setIfInBounds_toArray, List.set_cons_zero, List.set_cons_succ])
  refine wl_give rfl (g_alloc 23 (kc (zk)) zeroK ?_)
  intro w37 t_ b_
  replace hM : Ms w w37 [blk (w36.heap.size) (kc (zk)) 23, blk (w32.heap.size) (kc (A)) 23, blk (w27.heap.size) (kc (zk)) 23, wk p4 (2) L (3) m28, blk (w22.heap.size) (kc (C)) 23, blk (w17.heap.size) (kc (B)) 23, blk (w12.heap.size) (kc (A)) 23] := hM.new t_ b_
  clear t_ b_
  (try simp only [Act.put, List.setIfInBounds_toArray, List.set_cons_zero, List.set_cons_succ])
  refine wl_give rfl (g_store_all 23 _ _ (w36.heap.size) (kc (B)) _ 23 rfl rfl (hM.get 0 rfl) (szK _) (kk_len _ _) (one_kc _) ?_)
  intro w38 t_ b_
  replace hM : Ms w w38 [blk (w36.heap.size) (kc (B)) 23, blk (w32.heap.size) (kc (A)) 23, blk (w27.heap.size) (kc (zk)) 23, wk p4 (2) L (3) m28, blk (w22.heap.size) (kc (C)) 23, blk (w17.heap.size) (kc (B)) 23, blk (w12.heap.size) (kc (A)) 23] := hM.put 0 rfl t_ b_
  clear t_ b_
  (try simp only [Act.put, List.setIfInBounds_toArray, List.set_cons_zero, List.set_cons_succ])
  refine wl_give rfl (g_assign _ (.int .i64 (0)) rfl ?_)
  (try simp only [Act.put, List.setIfInBounds_toArray, List.set_cons_zero, List.set_cons_succ])
  refine wl_nil ?_
  refine hK35 _ _ ?_
  (try clear hK35 K35)
  refine wp_seq_k (fun K39 hK39 => ?_)
  refine wl_region ?_
  refine wl_give rfl (g_bldK1 ?_)
  (try simp only [Act.put, List.setIfInBounds_toArray, List.set_cons_zero, List.set_cons_succ])
  refine wl_give rfl (g_call 19 _ _ [.agg (kc (k1)).toArray, .int .i64 (2), .int .i64 (2)] (kf19 _ _) rfl ((rckey_any k1 (2) (2) w38 C 0 hZ).mono ?_))
  rintro e w40 ⟨rfl, t_⟩
  refine ⟨_, rfl, ?_⟩
  replace hM := hM.call t_
  clear t_
  (try simp only [Act.put, List.setIfInBounds_toArray, List.set_cons_zero, List.set_cons_succ])
  refine wl_give rfl (g_move _ (.tuple #[.agg (kc (C)).toArray, .int .i64 (0)]) rfl ?_)
  (try simp only [Act.put, List.setIfInBounds_toArray, List.set_cons_zero, List.set_cons_succ])
  refine wl_give rfl (g_extract _ #[.agg (kc (C)).toArray, .int .i64 (0)] 0 (.agg (kc (C)).toArray) rfl rfl ?_)
  (try simp only [Act.put, List.setIfInBounds_toArray, List.set_cons_zero, List.set_cons_succ])
  refine wl_give rfl (g_extract _ #[.agg (kc (C)).toArray, .int .i64 (0)] 1 (.int .i64 (0)) rfl rfl ?_)
  (try simp only [Act.put, List.setIfInBounds_toArray, List.set_cons_zero, List.set_cons_succ])
  refine wl_give rfl (g_alloc 23 (kc (zk)) zeroK ?_)
  intro w41 t_ b_
  replace hM : Ms w w41 [blk (w40.heap.size) (kc (zk)) 23, blk (w36.heap.size) (kc (B)) 23, blk (w32.heap.size) (kc (A)) 23, blk (w27.heap.size) (kc (zk)) 23, wk p4 (2) L (3) m28, blk (w22.heap.size) (kc (C)) 23, blk (w17.heap.size) (kc (B)) 23, blk (w12.heap.size) (kc (A)) 23] := hM.new t_ b_
  clear t_ b_
  (try simp only [Act.put, List.setIfInBounds_toArray, List.set_cons_zero, List.set_cons_succ])
  refine wl_give rfl (g_store_all 23 _ _ (w40.heap.size) (kc (C)) _ 23 rfl rfl (hM.get 0 rfl) (szK _) (kk_len _ _) (one_kc _) ?_)
  intro w42 t_ b_
  replace hM : Ms w w42 [blk (w40.heap.size) (kc (C)) 23, blk (w36.heap.size) (kc (B)) 23, blk (w32.heap.size) (kc (A)) 23, blk (w27.heap.size) (kc (zk)) 23, wk p4 (2) L (3) m28, blk (w22.heap.size) (kc (C)) 23, blk (w17.heap.size) (kc (B)) 23, blk (w12.heap.size) (kc (A)) 23] := hM.put 0 rfl t_ b_
  clear t_ b_
  (try simp only [Act.put, List.setIfInBounds_toArray, List.set_cons_zero, List.set_cons_succ])
  refine wl_give rfl (g_assign _ (.int .i64 (0)) rfl ?_)
  (try simp only [Act.put, List.setIfInBounds_toArray, List.set_cons_zero, List.set_cons_succ])
  refine wl_nil ?_
  refine hK39 _ _ ?_
  (try clear hK39 K39)
  refine wp_seq_k (fun K43 hK43 => ?_)
  (try simp only [List.append_eq, List.cons_append, List.nil_append])
  refine wl_region ?_
  refine wl_give rfl (g_move _ (.int .i64 (0)) rfl ?_)
  (try simp only [Act.put, List.setIfInBounds_toArray, List.set_cons_zero, List.set_cons_succ])
  refine wl_give rfl (g_ieq 27 _ _ .i64 (0) (0) true rfl rfl (by decide) ?_)
  (try simp only [Act.put, List.setIfInBounds_toArray, List.set_cons_zero, List.set_cons_succ])
  refine wl_give rfl (g_move _ (.bool true) rfl ?_)
  (try simp only [Act.put, List.setIfInBounds_toArray, List.set_cons_zero, List.set_cons_succ])
  refine wl_give rfl (g_move _ (.int .i64 (1)) rfl ?_)
  (try simp only [Act.put, List.setIfInBounds_toArray, List.set_cons_zero, List.set_cons_succ])
  refine wl_give rfl (g_ieq 27 _ _ .i64 (1) (1) true rfl rfl (by decide) ?_)
  (try simp only [Act.put, List.setIfInBounds_toArray, List.set_cons_zero, List.set_cons_succ])
  refine wl_give rfl (g_pickt _ _ _ (.bool true) rfl rfl ?_)
  (try simp only [Act.put, List.setIfInBounds_toArray, List.set_cons_zero, List.set_cons_succ])
  refine wl_give rfl (g_move _ (.bool true) rfl ?_)
  (try simp only [Act.put, List.setIfInBounds_toArray, List.set_cons_zero, List.set_cons_succ])
  refine wl_give rfl (g_move _ (.int .i64 (3)) rfl ?_)
  (try simp only [Act.put, List.setIfInBounds_toArray, List.set_cons_zero, List.set_cons_succ])
  refine wl_give rfl (g_ieq 3 _ _ .i64 (3) (3) true rfl rfl (by decide) ?_)
  (try simp only [Act.put, List.setIfInBounds_toArray, List.set_cons_zero, List.set_cons_succ])
  refine wl_give rfl (g_pickt _ _ _ (.bool true) rfl rfl ?_)
  (try simp only [Act.put, List.setIfInBounds_toArray, List.set_cons_zero, List.set_cons_succ])
  refine wl_give rfl (g_move _ (.bool true) rfl ?_)
  (try simp only [Act.put, List.setIfInBounds_toArray, List.set_cons_zero, List.set_cons_succ])
  refine wl_give rfl (g_load_all 23 _ (w12.heap.size) (kc (A)) 23 _ rfl (hM.get 7 rfl) Tryd.underlying23 rfl (szK _) ?_)
  (try simp only [Act.put, List.setIfInBounds_toArray, List.set_cons_zero, List.set_cons_succ])
  refine wl_give rfl (g_load_all 23 _ (w32.heap.size) (kc (A)) 23 _ rfl (hM.get 2 rfl) Tryd.underlying23 rfl (szK _) ?_)
  (try simp only [Act.put, List.setIfInBounds_toArray, List.set_cons_zero, List.set_cons_succ])
  refine wl_give rfl (g_eqlK _ _ (A) (A) true rfl rfl (decide_eq_true rfl) ?_)
  (try simp only [Act.put, List.setIfInBounds_toArray, List.set_cons_zero, List.set_cons_succ])
  refine wl_give rfl (g_pickt _ _ _ (.bool true) rfl rfl ?_)
  (try simp only [Act.put, List.setIfInBounds_toArray, List.set_cons_zero, List.set_cons_succ])
  refine wl_give rfl (g_move _ (.bool true) rfl ?_)
  (try simp only [Act.put, List.setIfInBounds_toArray, List.set_cons_zero, List.set_cons_succ])
  refine wl_give rfl (g_load_all 23 _ (w17.heap.size) (kc (B)) 23 _ rfl (hM.get 6 rfl) Tryd.underlying23 rfl (szK _) ?_)
  (try simp only [Act.put, List.setIfInBounds_toArray, List.set_cons_zero, List.set_cons_succ])
  refine wl_give rfl (g_load_all 23 _ (w36.heap.size) (kc (B)) 23 _ rfl (hM.get 1 rfl) Tryd.underlying23 rfl (szK _) ?_)
  (try simp only [Act.put, List.setIfInBounds_toArray, List.set_cons_zero, List.set_cons_succ])
  refine wl_give rfl (g_eqlK _ _ (B) (B) true rfl rfl (decide_eq_true rfl) ?_)
  (try simp only [Act.put, List.setIfInBounds_toArray, List.set_cons_zero, List.set_cons_succ])
  refine wl_give rfl (g_pickt _ _ _ (.bool true) rfl rfl ?_)
  (try simp only [Act.put, List.setIfInBounds_toArray, List.set_cons_zero, List.set_cons_succ])
  refine wl_give rfl (g_move _ (.bool true) rfl ?_)
  (try simp only [Act.put, List.setIfInBounds_toArray, List.set_cons_zero, List.set_cons_succ])
  refine wl_give rfl (g_load_all 23 _ (w22.heap.size) (kc (C)) 23 _ rfl (hM.get 5 rfl) Tryd.underlying23 rfl (szK _) ?_)
  (try simp only [Act.put, List.setIfInBounds_toArray, List.set_cons_zero, List.set_cons_succ])
  refine wl_give rfl (g_load_all 23 _ (w40.heap.size) (kc (C)) 23 _ rfl (hM.get 0 rfl) Tryd.underlying23 rfl (szK _) ?_)
  (try simp only [Act.put, List.setIfInBounds_toArray, List.set_cons_zero, List.set_cons_succ])
  refine wl_give rfl (g_eqlK _ _ (C) (C) true rfl rfl (decide_eq_true rfl) ?_)
  (try simp only [Act.put, List.setIfInBounds_toArray, List.set_cons_zero, List.set_cons_succ])
  refine wl_give rfl (g_pickt _ _ _ (.bool true) rfl rfl ?_)
  (try simp only [Act.put, List.setIfInBounds_toArray, List.set_cons_zero, List.set_cons_succ])
  refine wl_give rfl (g_move _ (.bool true) rfl ?_)
  (try simp only [Act.put, List.setIfInBounds_toArray, List.set_cons_zero, List.set_cons_succ])
  refine wl_give rfl (g_move _ (.int .i64 (0)) rfl ?_)
  (try simp only [Act.put, List.setIfInBounds_toArray, List.set_cons_zero, List.set_cons_succ])
  refine wl_give rfl (g_ieq 27 _ _ .i64 (0) (0) true rfl rfl (by decide) ?_)
  (try simp only [Act.put, List.setIfInBounds_toArray, List.set_cons_zero, List.set_cons_succ])
  refine wl_give rfl (g_pickt _ _ _ (.bool true) rfl rfl ?_)
  (try simp only [Act.put, List.setIfInBounds_toArray, List.set_cons_zero, List.set_cons_succ])
  refine wl_give rfl (g_move _ (.bool true) rfl ?_)
  (try simp only [Act.put, List.setIfInBounds_toArray, List.set_cons_zero, List.set_cons_succ])
  refine wl_give rfl (g_move _ (.int .i64 (0)) rfl ?_)
  (try simp only [Act.put, List.setIfInBounds_toArray, List.set_cons_zero, List.set_cons_succ])
  refine wl_give rfl (g_ieq 27 _ _ .i64 (0) (0) true rfl rfl (by decide) ?_)
  (try simp only [Act.put, List.setIfInBounds_toArray, List.set_cons_zero, List.set_cons_succ])
  refine wl_give rfl (g_pickt _ _ _ (.bool true) rfl rfl ?_)
  (try simp only [Act.put, List.setIfInBounds_toArray, List.set_cons_zero, List.set_cons_succ])
  refine wl_give rfl (g_move _ (.bool true) rfl ?_)
  (try simp only [Act.put, List.setIfInBounds_toArray, List.set_cons_zero, List.set_cons_succ])
  refine wl_give rfl (g_move _ (.int .i64 (0)) rfl ?_)
  (try simp only [Act.put, List.setIfInBounds_toArray, List.set_cons_zero, List.set_cons_succ])
  refine wl_give rfl (g_ieq 27 _ _ .i64 (0) (0) true rfl rfl (by decide) ?_)
  (try simp only [Act.put, List.setIfInBounds_toArray, List.set_cons_zero, List.set_cons_succ])
  refine wl_give rfl (g_pickt _ _ _ (.bool true) rfl rfl ?_)
  (try simp only [Act.put, List.setIfInBounds_toArray, List.set_cons_zero, List.set_cons_succ])
  refine wl_give rfl (g_move _ (.bool true) rfl ?_)
  (try simp only [Act.put, List.setIfInBounds_toArray, List.set_cons_zero, List.set_cons_succ])
  refine wl_give rfl (g_move _ (.int .i64 (10)) rfl ?_)
  (try simp only [Act.put, List.setIfInBounds_toArray, List.set_cons_zero, List.set_cons_succ])
  refine wl_give rfl (g_ieq 27 _ _ .i64 (10) (10) true rfl rfl (by decide) ?_)
  (try simp only [Act.put, List.setIfInBounds_toArray, List.set_cons_zero, List.set_cons_succ])
  refine wl_give rfl (g_pickt _ _ _ (.bool true) rfl rfl ?_)
  (try simp only [Act.put, List.setIfInBounds_toArray, List.set_cons_zero, List.set_cons_succ])
  refine wl_give rfl (g_move _ (.bool true) rfl ?_)
  (try simp only [Act.put, List.setIfInBounds_toArray, List.set_cons_zero, List.set_cons_succ])
  refine wl_give rfl (g_move _ (.pointer (some ⟨p4, 0, none⟩)) rfl ?_)
  (try simp only [Act.put, List.setIfInBounds_toArray, List.set_cons_zero, List.set_cons_succ])
  refine wl_give rfl (g_call 11 _ _ [.pointer (some ⟨p4, 0, none⟩)] (kf11 _ _) rfl ((wat_any (show Ms w w42 [wk p4 (2) L (3) m28, blk (w40.heap.size) (kc (C)) 23, blk (w36.heap.size) (kc (B)) 23, blk (w32.heap.size) (kc (A)) 23, blk (w27.heap.size) (kc (zk)) 23, blk (w22.heap.size) (kc (C)) 23, blk (w17.heap.size) (kc (B)) 23, blk (w12.heap.size) (kc (A)) 23] from (hM.up 4 rfl))).mono ?_))
  rintro e w44 ⟨rfl, t_⟩
  refine ⟨_, rfl, ?_⟩
  replace hM := hM.call t_
  clear t_
  (try simp only [Act.put, List.setIfInBounds_toArray, List.set_cons_zero, List.set_cons_succ])
  refine wl_give rfl (g_ieq 3 _ _ .i64 (((3 : Nat) : Int)) (3) true rfl rfl (decide_eq_true rfl) ?_)
  (try simp only [Act.put, List.setIfInBounds_toArray, List.set_cons_zero, List.set_cons_succ])
  refine wl_give rfl (g_pickt _ _ _ (.bool true) rfl rfl ?_)
  (try simp only [Act.put, List.setIfInBounds_toArray, List.set_cons_zero, List.set_cons_succ])
  refine wl_give rfl (g_move _ (.bool true) rfl ?_)
  (try simp only [Act.put, List.setIfInBounds_toArray, List.set_cons_zero, List.set_cons_succ])
  refine wl_give rfl (g_move _ (.pointer (some ⟨p4, 0, none⟩)) rfl ?_)
  (try simp only [Act.put, List.setIfInBounds_toArray, List.set_cons_zero, List.set_cons_succ])
  refine wl_give rfl (g_call 13 _ _ [.pointer (some ⟨p4, 0, none⟩)] (kf13 _ _) rfl ((wminds_any (show Ms w w44 [wk p4 (2) L (3) m28, blk (w40.heap.size) (kc (C)) 23, blk (w36.heap.size) (kc (B)) 23, blk (w32.heap.size) (kc (A)) 23, blk (w27.heap.size) (kc (zk)) 23, blk (w22.heap.size) (kc (C)) 23, blk (w17.heap.size) (kc (B)) 23, blk (w12.heap.size) (kc (A)) 23] from (hM.up 4 rfl))).mono ?_))
  rintro e w45 ⟨rfl, t_⟩
  refine ⟨_, rfl, ?_⟩
  replace hM := hM.call t_
  clear t_
  (try simp only [Act.put, List.setIfInBounds_toArray, List.set_cons_zero, List.set_cons_succ])
  refine wl_give rfl (g_ieq 3 _ _ .i64 (((m28 : Nat) : Int)) (0) true rfl rfl (decide_eq_true (by have := (wk_few (show Ms w _ [wk p4 (2) L (3) m28, blk (w40.heap.size) (kc (C)) 23, blk (w36.heap.size) (kc (B)) 23, blk (w32.heap.size) (kc (A)) 23, blk (w27.heap.size) (kc (zk)) 23, blk (w22.heap.size) (kc (C)) 23, blk (w17.heap.size) (kc (B)) 23, blk (w12.heap.size) (kc (A)) 23] from (hM.up 4 rfl))).2.2.2.2 rfl; omega)) ?_)
  (try simp only [Act.put, List.setIfInBounds_toArray, List.set_cons_zero, List.set_cons_succ])
  refine wl_give rfl (g_pickt _ _ _ (.bool true) rfl rfl ?_)
  (try simp only [Act.put, List.setIfInBounds_toArray, List.set_cons_zero, List.set_cons_succ])
  refine wl_give rfl (g_move _ (.bool true) rfl ?_)
  (try simp only [Act.put, List.setIfInBounds_toArray, List.set_cons_zero, List.set_cons_succ])
  refine wl_give rfl (g_move _ (.pointer (some ⟨p4, 0, none⟩)) rfl ?_)
  (try simp only [Act.put, List.setIfInBounds_toArray, List.set_cons_zero, List.set_cons_succ])
  refine wl_give rfl (g_call 17 _ _ [.pointer (some ⟨p4, 0, none⟩), .int .i64 (2)] (kf17 _ _) rfl ((pskip_no (show Ms w w45 [wk p4 (2) L (3) m28, blk (w40.heap.size) (kc (C)) 23, blk (w36.heap.size) (kc (B)) 23, blk (w32.heap.size) (kc (A)) 23, blk (w27.heap.size) (kc (zk)) 23, blk (w22.heap.size) (kc (C)) 23, blk (w17.heap.size) (kc (B)) 23, blk (w12.heap.size) (kc (A)) 23] from (hM.up 4 rfl)) (2) (.inl (by decide))).mono ?_))
  rintro e w46 ⟨rfl, t_⟩
  refine ⟨_, rfl, ?_⟩
  replace hM := hM.call t_
  clear t_
  (try simp only [Act.put, List.setIfInBounds_toArray, List.set_cons_zero, List.set_cons_succ])
  refine wl_give rfl (g_ieq 27 _ _ .i64 (1) (1) true rfl rfl (by decide) ?_)
  (try simp only [Act.put, List.setIfInBounds_toArray, List.set_cons_zero, List.set_cons_succ])
  refine wl_give rfl (g_pickt _ _ _ (.bool true) rfl rfl ?_)
  (try simp only [Act.put, List.setIfInBounds_toArray, List.set_cons_zero, List.set_cons_succ])
  refine wl_give rfl (g_assign _ (.bool true) rfl ?_)
  (try simp only [Act.put, List.setIfInBounds_toArray, List.set_cons_zero, List.set_cons_succ])
  refine wl_nil ?_
  refine hK43 _ _ ?_
  (try clear hK43 K43)
  refine wp_ret ?_
  go_ret
  exact ⟨rfl, hM.below⟩
theorem nx_ok (n : Nat) (L : Ky) (a : Nat) (h : a ≤ n) : nx n L a = ((wl (n - a) L, 0), a + 1) := by unfold nx; rw [if_pos h]
theorem nx_end (n : Nat) (L : Ky) (a : Nat) (h : n < a) : nx n L a = ((zk, 10), a) := by unfold nx; rw [if_neg (by omega)]
theorem sk_ok (n a t : Nat) (h1 : a ≤ t) (h2 : t ≤ n) : sk n a ((t : Nat) : Int) = (0, t) := by unfold sk; rw [if_neg (by omega), Int.toNat_natCast]
theorem awake_any (w : World) (hT : Tabs w) : Calls Tryd.prog 9 #[] w fun e w' => e = .returned (.bool true) ∧ Below w.heap.size w w' := by
  obtain ⟨L, hL⟩ : ∃ L, tg k1 chainW = L := ⟨_, rfl⟩
  exact awake_core w hT L (wl 2 L) (wl 1 L) (wl 0 L) ⟨hL⟩ ⟨nx_ok 2 L 0 (by decide)⟩ ⟨nx_ok 2 L 1 (by decide)⟩ ⟨nx_ok 2 L 2 (by decide)⟩ ⟨nx_end 2 L 3 (by decide)⟩ ⟨ky_nat k1 L 2 0 (by decide) (by decide) (by decide) hL⟩ ⟨ky_nat k1 L 2 1 (by decide) (by decide) (by decide) hL⟩ ⟨ky_nat k1 L 2 2 (by decide) (by decide) (by decide) hL⟩
theorem in_i64 {n : Int} (h : (Lit.int .i64 n).wf = true) : -9223372036854775808 ≤ n ∧ n ≤ 9223372036854775807 := by
  simp [Lit.wf, IntKind.min, IntKind.max, IntKind.signed, IntKind.bits] at h
  omega
theorem in_u16 {n : Int} (h : (Lit.int .u16 n).wf = true) : 0 ≤ n ∧ n < 65536 := by
  simp [Lit.wf, IntKind.min, IntKind.max, IntKind.signed, IntKind.bits] at h
  omega
theorem in_u8 {n : Int} (h : (Lit.int .u8 n).wf = true) : 0 ≤ n ∧ n < 256 := by
  simp [Lit.wf, IntKind.min, IntKind.max, IntKind.signed, IntKind.bits] at h
  omega
theorem rem_nat (n : Int) (q : Nat) (hq : 0 < q) (h : 0 ≤ n) : ∃ r : Nat, n.tmod ((q : Nat) : Int) = ((r : Nat) : Int) ∧ r < q := by
  rw [Int.tmod_eq_emod_of_nonneg h]
  have h1 := Int.emod_nonneg n (show ((q : Nat) : Int) ≠ 0 by omega)
  have h2 := Int.emod_lt_of_pos n (show (0 : Int) < ((q : Nat) : Int) by omega)
  exact ⟨(n % ((q : Nat) : Int)).toNat, by omega, by omega⟩
end Go.Proofs.YtdfpnicpcndkjaaDoor
