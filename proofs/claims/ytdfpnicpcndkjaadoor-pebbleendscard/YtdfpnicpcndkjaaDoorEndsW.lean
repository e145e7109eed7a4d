/- PebbleEnds: the walk. -/
import Derived.Test.YtdfpnicpcndkjaaDoorAwake
import Derived.WalkKit
import Derived.WalkSpells
import Derived.WalkLawsBesides
namespace Go.Proofs.YtdfpnicpcndkjaaDoor.pebbleEnds
set_option maxRecDepth 10000
open Go Go.RowKit
set_option linter.unusedVariables false
set_option linter.unusedSimpArgs false

set_option maxHeartbeats 4000000 in
theorem walk_a (s : Ky) (n : Int) (w : World) (hT : Tabs w) (F : Int) (k : Nat) (L : Ky) (eF : Shut (n.tmod 1024 = F)) (wF : Shut (IntKind.i64.wrap F = F)) (ek : Shut (IntKind.i64.wrap (F + 1) = ((k : Nat) : Int))) (ek1 : Shut (IntKind.i64.wrap (((k : Nat) : Int) + 1) = ((k + 1 : Nat) : Int))) (h1 : 1 ≤ k) (h2 : k ≤ 1024) (hL : Shut (tg s chainW = L)) (hS : Shut (sk k 0 ((k : Nat) : Int) = (0, k))) (hA : Shut (nx k L k = ((L, 0), k + 1))) (hB : Shut (nx k L (k + 1) = ((zk, 10), k + 1))) (hX : Shut (ky s 1 1 = (L, 0))) : Calls Tryd.prog 8 #[.agg (kc s).toArray, .int .u16 n] w fun e w' => e = .returned (.bool true) ∧ Below w.heap.size w w' := by
  have hM := Ms.refl w
  go_enter Tryd.func8, Tryd.ntmps8
  refine wp_seq_k (fun K1 hK1 => ?_)
  refine wl_region ?_
  refine wl_give rfl (g_box 23 _ (kc (s)) rfl ?_)
  intro w2 t_ b_
  replace hM : Ms w w2 [blk (w.heap.size) (kc (s)) 23] := hM.new t_ b_
  clear t_ b_
  (try simp only [Act.put, List.setIfInBounds_toArray, List.set_cons_zero, List.set_cons_succ])
  refine wl_give rfl (g_assign _ (.bool false) rfl ?_)
  (try simp only [Act.put, List.setIfInBounds_toArray, List.set_cons_zero, List.set_cons_succ])
  refine wl_nil ?_
  refine hK1 _ _ ?_
  (try clear hK1 K1)
  refine wp_seq_k (fun K3 hK3 => ?_)
  refine wp_seq_k (fun K4 hK4 => ?_)
  refine wl_region ?_
  refine wl_give rfl (g_call 9 _ _ [] (kf9 _ _) rfl ((awake_any w2 (hM.tabs hT)).mono ?_))
  rintro e w5 ⟨rfl, t_⟩
  refine ⟨_, rfl, ?_⟩
  replace hM := hM.call t_
  clear t_
  (try simp only [Act.put, List.setIfInBounds_toArray, List.set_cons_zero, List.set_cons_succ])
  refine wl_give rfl (g_unot 4 _ true rfl ?_)
  (try simp only [Act.put, List.setIfInBounds_toArray, List.set_cons_zero, List.set_cons_succ])
  refine wl_nil ?_
  refine hK4 _ _ ?_
  (try clear hK4 K4)
  refine wp_cond_false rfl ?_
  refine wp_skip ?_
  refine hK3 _ _ ?_
  (try clear hK3 K3)
  refine wp_seq_k (fun K6 hK6 => ?_)
  refine wl_region ?_
  refine wl_give rfl (g_move _ (.int .u16 (n)) rfl ?_)
  (try simp only [Act.put, List.setIfInBounds_toArray, List.set_cons_zero, List.set_cons_succ])
  refine wl_give rfl (g_irem 41 _ _ .u16 (n) (1024) (F) rfl rfl (by decide) eF.out ?_)
  (try simp only [Act.put, List.setIfInBounds_toArray, List.set_cons_zero, List.set_cons_succ])
  refine wl_give rfl (g_cv_41_3 _ (F) (F) rfl (wF.out) ?_)
  (try simp only [Act.put, List.setIfInBounds_toArray, List.set_cons_zero, List.set_cons_succ])
  refine wl_give rfl (g_ia 3 _ _ .i64 (F) (1) (((k : Nat) : Int)) rfl rfl ek.out ?_)
  (try simp only [Act.put, List.setIfInBounds_toArray, List.set_cons_zero, List.set_cons_succ])
  refine wl_give rfl (g_assign _ (.int .i64 (((k : Nat) : Int))) rfl ?_)
  (try simp only [Act.put, List.setIfInBounds_toArray, List.set_cons_zero, List.set_cons_succ])
  refine wl_nil ?_
  refine hK6 _ _ ?_
  (try clear hK6 K6)
  refine wp_seq_k (fun K7 hK7 => ?_)
  refine wl_region ?_
  refine wl_give rfl (g_load_all 23 _ (w.heap.size) (kc (s)) 23 _ rfl (hM.get 0 rfl) Tryd.underlying23 rfl (szK _) ?_)
  (try simp only [Act.put, List.setIfInBounds_toArray, List.set_cons_zero, List.set_cons_succ])
  refine wl_give rfl (g_move _ (.int .i64 (((k : Nat) : Int))) rfl ?_)
  (try simp only [Act.put, List.setIfInBounds_toArray, List.set_cons_zero, List.set_cons_succ])
  refine wl_give rfl (g_call 10 _ _ [.agg (kc (s)).toArray, .int .i64 (((k : Nat) : Int))] (kf10 _ _) rfl ((wnew_any s (k) L w w5 _ hM hT h1 h2 hL).mono ?_))
  rintro e w8 ⟨p9, rfl, h_⟩
  refine ⟨_, rfl, ?_⟩
  replace hM : Ms w w8 [wk p9 (k) L (0) 1, blk (w.heap.size) (kc (s)) 23] := h_
  clear h_
  (try simp only [Act.put, List.setIfInBounds_toArray, List.set_cons_zero, List.set_cons_succ])
  refine wl_give rfl (g_move _ (.tuple #[.pointer (some ⟨p9, 0, none⟩), .int .i64 (0)]) rfl ?_)
  (try simp only [Act.put, List.setIfInBounds_toArray, List.set_cons_zero, List.set_cons_succ])
  refine wl_give rfl (g_extract _ #[.pointer (some ⟨p9, 0, none⟩), .int .i64 (0)] 0 (.pointer (some ⟨p9, 0, none⟩)) rfl rfl ?_)
  (try simp only [Act.put, List.setIfInBounds_toArray, List.set_cons_zero, List.set_cons_succ])
  refine wl_give rfl (g_extract _ #[.pointer (some ⟨p9, 0, none⟩), .int .i64 (0)] 1 (.int .i64 (0)) rfl rfl ?_)
  (try simp only [Act.put, List.setIfInBounds_toArray, List.set_cons_zero, List.set_cons_succ])
  refine wl_give rfl (g_assign _ (.pointer (some ⟨p9, 0, none⟩)) rfl ?_)
  (try simp only [Act.put, List.setIfInBounds_toArray, List.set_cons_zero, List.set_cons_succ])
  refine wl_give rfl (g_assign _ (.int .i64 (0)) rfl ?_)
  (try simp only [Act.put, List.setIfInBounds_toArray, List.set_cons_zero, List.set_cons_succ])
  refine wl_nil ?_
  refine hK7 _ _ ?_
  (try clear hK7 K7)
  refine wp_seq_k (fun K10 hK10 => ?_)
  refine wp_seq_k (fun K11 hK11 => ?_)
  refine wl_region ?_
  refine wl_give rfl (g_move _ (.pointer (some ⟨p9, 0, none⟩)) rfl ?_)
  (try simp only [Act.put, List.setIfInBounds_toArray, List.set_cons_zero, List.set_cons_succ])
  refine wl_give rfl (g_peq _ ((some ⟨p9, 0, none⟩)) false rfl rfl ?_)
  (try simp only [Act.put, List.setIfInBounds_toArray, List.set_cons_zero, List.set_cons_succ])
  refine wl_give rfl (g_move _ (.bool false) rfl ?_)
  (try simp only [Act.put, List.setIfInBounds_toArray, List.set_cons_zero, List.set_cons_succ])
  refine wl_give rfl (g_move _ (.pointer (some ⟨p9, 0, none⟩)) rfl ?_)
  (try simp only [Act.put, List.setIfInBounds_toArray, List.set_cons_zero, List.set_cons_succ])
  refine wl_give rfl (g_move _ (.int .i64 (((k : Nat) : Int))) rfl ?_)
  (try simp only [Act.put, List.setIfInBounds_toArray, List.set_cons_zero, List.set_cons_succ])
  refine wl_give rfl (g_call 17 _ _ [.pointer (some ⟨p9, 0, none⟩), .int .i64 (((k : Nat) : Int))] (kf17 _ _) rfl ((pskip_any hM (((k : Nat) : Int)) 0 (k) hS).mono ?_))
  rintro e w12 ⟨m13, rfl, h_⟩
  refine ⟨_, rfl, ?_⟩
  replace hM : Ms w w12 [wk p9 (k) L (k) m13, blk (w.heap.size) (kc (s)) 23] := h_
  clear h_
  (try simp only [Act.put, List.setIfInBounds_toArray, List.set_cons_zero, List.set_cons_succ])
  refine wl_give rfl (g_ine 27 _ _ .i64 (0) (0) false rfl rfl (by decide) ?_)
  (try simp only [Act.put, List.setIfInBounds_toArray, List.set_cons_zero, List.set_cons_succ])
  refine wl_give rfl (g_pickf _ _ _ (.bool false) rfl rfl ?_)
  (try simp only [Act.put, List.setIfInBounds_toArray, List.set_cons_zero, List.set_cons_succ])
  refine wl_give rfl (g_move _ (.bool false) rfl ?_)
  (try simp only [Act.put, List.setIfInBounds_toArray, List.set_cons_zero, List.set_cons_succ])
  refine wl_give rfl (g_move _ (.pointer (some ⟨p9, 0, none⟩)) rfl ?_)
  (try simp only [Act.put, List.setIfInBounds_toArray, List.set_cons_zero, List.set_cons_succ])
  refine wl_give rfl (g_call 12 _ _ [.pointer (some ⟨p9, 0, none⟩)] (kf12 _ _) rfl ((wleft_any hM (1) ⟨by omega⟩).mono ?_))
  rintro e w14 ⟨rfl, t_⟩
  refine ⟨_, rfl, ?_⟩
  replace hM := hM.call t_
  clear t_
  (try simp only [Act.put, List.setIfInBounds_toArray, List.set_cons_zero, List.set_cons_succ])
  refine wl_give rfl (g_ine 3 _ _ .i64 (1) (1) false rfl rfl (by decide) ?_)
  (try simp only [Act.put, List.setIfInBounds_toArray, List.set_cons_zero, List.set_cons_succ])
  refine wl_give rfl (g_pickf _ _ _ (.bool false) rfl rfl ?_)
  (try simp only [Act.put, List.setIfInBounds_toArray, List.set_cons_zero, List.set_cons_succ])
  refine wl_nil ?_
  refine hK11 _ _ ?_
  (try clear hK11 K11)
  refine wp_cond_false rfl ?_
  refine wp_skip ?_
  refine hK10 _ _ ?_
  (try clear hK10 K10)
  refine wp_seq_k (fun K15 hK15 => ?_)
  refine wl_region ?_
  refine wl_give rfl (g_move _ (.pointer (some ⟨p9, 0, none⟩)) rfl ?_)
  (try simp only [Act.put, List.setIfInBounds_toArray, List.set_cons_zero, List.set_cons_succ])
  refine wl_give rfl (g_call 15 _ _ [.pointer (some ⟨p9, 0, none⟩)] (kf15 _ _) rfl ((pnext_any hM hT L 0 (k + 1) hA).mono ?_))
  rintro e w16 ⟨m17, rfl, h_⟩
  refine ⟨_, rfl, ?_⟩
  replace hM : Ms w w16 [wk p9 (k) L (k + 1) m17, blk (w.heap.size) (kc (s)) 23] := h_
  clear h_
  (try simp only [Act.put, List.setIfInBounds_toArray, List.set_cons_zero, List.set_cons_succ])
  refine wl_give rfl (g_move _ (.tuple #[.agg (kc (L)).toArray, .int .i64 (0)]) rfl ?_)
  (try simp only [Act.put, List.setIfInBounds_toArray, List.set_cons_zero, List.set_cons_succ])
  refine wl_give rfl (g_extract _ #[.agg (kc (L)).toArray, .int .i64 (0)] 0 (.agg (kc (L)).toArray) rfl rfl ?_)
  (try simp only [Act.put, List.setIfInBounds_toArray, List.set_cons_zero, List.set_cons_succ])
  refine wl_give rfl (g_extract _ #[.agg (kc (L)).toArray, .int .i64 (0)] 1 (.int .i64 (0)) rfl rfl ?_)
  (try simp only [Act.put, List.setIfInBounds_toArray, List.set_cons_zero, List.set_cons_succ])
  refine wl_give rfl (g_alloc 23 (kc (zk)) zeroK ?_)
  intro w18 t_ b_
  replace hM : Ms w w18 [blk (w16.heap.size) (kc (zk)) 23, wk p9 (k) L (k + 1) m17, blk (w.heap.size) (kc (s)) 23] := hM.new t_ b_
  clear t_ b_
  (try simp only [Act.put, List.setIfInBounds_toArray, List.set_cons_zero, List.set_cons_succ])
  refine wl_give rfl (g_store_all 23 _ _ (w16.heap.size) (kc (L)) _ 23 rfl rfl (hM.get 0 rfl) (szK _) (kk_len _ _) (one_kc _) ?_)
  intro w19 t_ b_
  replace hM : Ms w w19 [blk (w16.heap.size) (kc (L)) 23, wk p9 (k) L (k + 1) m17, blk (w.heap.size) (kc (s)) 23] := hM.put 0 rfl t_ b_
  clear t_ b_
  (try simp only [Act.put, List.setIfInBounds_toArray, List.set_cons_zero, List.set_cons_succ])
  refine wl_give rfl (g_assign _ (.int .i64 (0)) rfl ?_)
  (try simp only [Act.put, List.setIfInBounds_toArray, List.set_cons_zero, List.set_cons_succ])
  refine wl_nil ?_
  refine hK15 _ _ ?_
  (try clear hK15 K15)
  refine wp_seq_k (fun K20 hK20 => ?_)
  refine wl_region ?_
  refine wl_give rfl (g_move _ (.pointer (some ⟨p9, 0, none⟩)) rfl ?_)
  (try simp only [Act.put, List.setIfInBounds_toArray, List.set_cons_zero, List.set_cons_succ])
  refine wl_give rfl (g_call 15 _ _ [.pointer (some ⟨p9, 0, none⟩)] (kf15 _ _) rfl ((pnext_any (show Ms w w19 [wk p9 (k) L (k + 1) m17, blk (w16.heap.size) (kc (L)) 23, blk (w.heap.size) (kc (s)) 23] from (hM.up 1 rfl)) hT zk 10 (k + 1) hB).mono ?_))
  rintro e w21 ⟨m22, rfl, h_⟩
  refine ⟨_, rfl, ?_⟩
  replace hM : Ms w w21 [wk p9 (k) L (k + 1) m22, blk (w16.heap.size) (kc (L)) 23, blk (w.heap.size) (kc (s)) 23] := h_
  clear h_
  (try simp only [Act.put, List.setIfInBounds_toArray, List.set_cons_zero, List.set_cons_succ])
  refine wl_give rfl (g_move _ (.tuple #[.agg (kc (zk)).toArray, .int .i64 (10)]) rfl ?_)
  (try simp only [Act.put, List.setIfInBounds_toArray, List.set_cons_zero, List.set_cons_succ])
  refine wl_give rfl (g_extract _ #[.agg (kc (zk)).toArray, .int .i64 (10)] 0 (.agg (kc (zk)).toArray) rfl rfl ?_)
  (try simp only [Act.put, List.setIfInBounds_toArray, List.set_cons_zero, List.set_cons_succ])
  refine wl_give rfl (g_extract _ #[.agg (kc (zk)).toArray, .int .i64 (10)] 1 (.int .i64 (10)) rfl rfl ?_)
  (try simp only [Act.put, List.setIfInBounds_toArray, List.set_cons_zero, List.set_cons_succ])
  refine wl_give rfl (g_alloc 23 (kc (zk)) zeroK ?_)
  intro w23 t_ b_
  replace hM : Ms w w23 [blk (w21.heap.size) (kc (zk)) 23, wk p9 (k) L (k + 1) m22, blk (w16.heap.size) (kc (L)) 23, blk (w.heap.size) (kc (s)) 23] := hM.new t_ b_
  clear t_ b_
  (try simp only [Act.put, List.setIfInBounds_toArray, List.set_cons_zero, List.set_cons_succ])
  refine wl_give rfl (g_store_all 23 _ _ (w21.heap.size) (kc (zk)) _ 23 rfl rfl (hM.get 0 rfl) (szK _) (kk_len _ _) (one_kc _) ?_)
  intro w24 t_ b_
  replace hM : Ms w w24 [blk (w21.heap.size) (kc (zk)) 23, wk p9 (k) L (k + 1) m22, blk (w16.heap.size) (kc (L)) 23, blk (w.heap.size) (kc (s)) 23] := hM.put 0 rfl t_ b_
  clear t_ b_
  (try simp only [Act.put, List.setIfInBounds_toArray, List.set_cons_zero, List.set_cons_succ])
  refine wl_give rfl (g_assign _ (.int .i64 (10)) rfl ?_)
  (try simp only [Act.put, List.setIfInBounds_toArray, List.set_cons_zero, List.set_cons_succ])
  refine wl_nil ?_
  refine hK20 _ _ ?_
  (try clear hK20 K20)
  refine wp_seq_k (fun K25 hK25 => ?_)
  refine wl_region ?_
  refine wl_give rfl (g_move _ (.pointer (some ⟨p9, 0, none⟩)) rfl ?_)
  (try simp only [Act.put, List.setIfInBounds_toArray, List.set_cons_zero, List.set_cons_succ])
  refine wl_give rfl (g_call 15 _ _ [.pointer (some ⟨p9, 0, none⟩)] (kf15 _ _) rfl ((pnext_any (show Ms w w24 [wk p9 (k) L (k + 1) m22, blk (w21.heap.size) (kc (zk)) 23, blk (w16.heap.size) (kc (L)) 23, blk (w.heap.size) (kc (s)) 23] from (hM.up 1 rfl)) hT zk 10 (k + 1) hB).mono ?_))
  rintro e w26 ⟨m27, rfl, h_⟩
  refine ⟨_, rfl, ?_⟩
  replace hM : Ms w w26 [wk p9 (k) L (k + 1) m27, blk (w21.heap.size) (kc (zk)) 23, blk (w16.heap.size) (kc (L)) 23, blk (w.heap.size) (kc (s)) 23] := h_
  clear h_
  (try simp only [Act.put, List.setIfInBounds_toArray, List.set_cons_zero, List.set_cons_succ])
  refine wl_give rfl (g_move _ (.tuple #[.agg (kc (zk)).toArray, .int .i64 (10)]) rfl ?_)
  (try simp only [Act.put, List.setIfInBounds_toArray, List.set_cons_zero, List.set_cons_succ])
  refine wl_give rfl (g_extract _ #[.agg (kc (zk)).toArray, .int .i64 (10)] 0 (.agg (kc (zk)).toArray) rfl rfl ?_)
  (try simp only [Act.put, List.setIfInBounds_toArray, List.set_cons_zero, List.set_cons_succ])
  refine wl_give rfl (g_extract _ #[.agg (kc (zk)).toArray, .int .i64 (10)] 1 (.int .i64 (10)) rfl rfl ?_)
  (try simp only [Act.put, List.setIfInBounds_toArray, List.set_cons_zero, List.set_cons_succ])
  refine wl_give rfl (g_alloc 23 (kc (zk)) zeroK ?_)
  intro w28 t_ b_
  replace hM : Ms w w28 [blk (w26.heap.size) (kc (zk)) 23, wk p9 (k) L (k + 1) m27, blk (w21.heap.size) (kc (zk)) 23, blk (w16.heap.size) (kc (L)) 23, blk (w.heap.size) (kc (s)) 23] := hM.new t_ b_
  clear t_ b_
  (try simp only [Act.put, List.setIfInBounds_toArray, List.set_cons_zero, List.set_cons_succ])
  refine wl_give rfl (g_store_all 23 _ _ (w26.heap.size) (kc (zk)) _ 23 rfl rfl (hM.get 0 rfl) (szK _) (kk_len _ _) (one_kc _) ?_)
  intro w29 t_ b_
  replace hM : Ms w w29 [blk (w26.heap.size) (kc (zk)) 23, wk p9 (k) L (k + 1) m27, blk (w21.heap.size) (kc (zk)) 23, blk (w16.heap.size) (kc (L)) 23, blk (w.heap.size) (kc (s)) 23] := hM.put 0 rfl t_ b_
  clear t_ b_
  (try simp only [Act.put, List.setIfInBounds_toArray, List.set_cons_zero, List.set_cons_succ])
  refine wl_give rfl (g_assign _ (.int .i64 (10)) rfl ?_)
  (try simp only [Act.put, List.setIfInBounds_toArray, List.set_cons_zero, List.set_cons_succ])
  refine wl_nil ?_
  refine hK25 _ _ ?_
  (try clear hK25 K25)
  refine wp_seq_k (fun K30 hK30 => ?_)
  refine wl_region ?_
  refine wl_give rfl (g_load_all 23 _ (w.heap.size) (kc (s)) 23 _ rfl (hM.get 4 rfl) Tryd.underlying23 rfl (szK _) ?_)
  (try simp only [Act.put, List.setIfInBounds_toArray, List.set_cons_zero, List.set_cons_succ])
  refine wl_give rfl (g_call 19 _ _ [.agg (kc (s)).toArray, .int .i64 (1), .int .i64 (1)] (kf19 _ _) rfl ((rckey_any s (1) (1) w29 L 0 hX).mono ?_))
  rintro e w31 ⟨rfl, t_⟩
  refine ⟨_, rfl, ?_⟩
  replace hM := hM.call t_
  clear t_
  (try simp only [Act.put, List.setIfInBounds_toArray, List.set_cons_zero, List.set_cons_succ])
  refine wl_give rfl (g_move _ (.tuple #[.agg (kc (L)).toArray, .int .i64 (0)]) rfl ?_)
  (try simp only [Act.put, List.setIfInBounds_toArray, List.set_cons_zero, List.set_cons_succ])
  refine wl_give rfl (g_extract _ #[.agg (kc (L)).toArray, .int .i64 (0)] 0 (.agg (kc (L)).toArray) rfl rfl ?_)
  (try simp only [Act.put, List.setIfInBounds_toArray, List.set_cons_zero, List.set_cons_succ])
  refine wl_give rfl (g_extract _ #[.agg (kc (L)).toArray, .int .i64 (0)] 1 (.int .i64 (0)) rfl rfl ?_)
  (try simp only [Act.put, List.setIfInBounds_toArray, List.set_cons_zero, List.set_cons_succ])
  refine wl_give rfl (g_alloc 23 (kc (zk)) zeroK ?_)
  intro w32 t_ b_
  replace hM : Ms w w32 [blk (w31.heap.size) (kc (zk)) 23, blk (w26.heap.size) (kc (zk)) 23, wk p9 (k) L (k + 1) m27, blk (w21.heap.size) (kc (zk)) 23, blk (w16.heap.size) (kc (L)) 23, blk (w.heap.size) (kc (s)) 23] := hM.new t_ b_
  clear t_ b_
  (try simp only [Act.put, List.setIfInBounds_toArray, List.set_cons_zero, List.set_cons_succ])
  refine wl_give rfl (g_store_all 23 _ _ (w31.heap.size) (kc (L)) _ 23 rfl rfl (hM.get 0 rfl) (szK _) (kk_len _ _) (one_kc _) ?_)
  intro w33 t_ b_
  replace hM : Ms w w33 [blk (w31.heap.size) (kc (L)) 23, blk (w26.heap.size) (kc (zk)) 23, wk p9 (k) L (k + 1) m27, blk (w21.heap.size) (kc (zk)) 23, blk (w16.heap.size) (kc (L)) 23, blk (w.heap.size) (kc (s)) 23] := hM.put 0 rfl t_ b_
  clear t_ b_
  (try simp only [Act.put, List.setIfInBounds_toArray, List.set_cons_zero, List.set_cons_succ])
  refine wl_give rfl (g_assign _ (.int .i64 (0)) rfl ?_)
  (try simp only [Act.put, List.setIfInBounds_toArray, List.set_cons_zero, List.set_cons_succ])
  refine wl_nil ?_
  refine hK30 _ _ ?_
  (try clear hK30 K30)
  refine wp_seq_k (fun K34 hK34 => ?_)
  (try simp only [List.append_eq, List.cons_append, List.nil_append])
  refine wl_region ?_
  refine wl_give rfl (g_move _ (.int .i64 (0)) rfl ?_)
  (try simp only [Act.put, List.setIfInBounds_toArray, List.set_cons_zero, List.set_cons_succ])
  refine wl_give rfl (g_ieq 27 _ _ .i64 (0) (0) true rfl rfl (by decide) ?_)
  (try simp only [Act.put, List.setIfInBounds_toArray, List.set_cons_zero, List.set_cons_succ])
  refine wl_give rfl (g_move _ (.bool true) rfl ?_)
  (try simp only [Act.put, List.setIfInBounds_toArray, List.set_cons_zero, List.set_cons_succ])
  refine wl_give rfl (g_load_all 23 _ (w16.heap.size) (kc (L)) 23 _ rfl (hM.get 4 rfl) Tryd.underlying23 rfl (szK _) ?_)
  (try simp only [Act.put, List.setIfInBounds_toArray, List.set_cons_zero, List.set_cons_succ])
  refine wl_give rfl (g_load_all 23 _ (w31.heap.size) (kc (L)) 23 _ rfl (hM.get 0 rfl) Tryd.underlying23 rfl (szK _) ?_)
  (try simp only [Act.put, List.setIfInBounds_toArray, List.set_cons_zero, List.set_cons_succ])
  refine wl_give rfl (g_eqlK _ _ (L) (L) true rfl rfl (decide_eq_true rfl) ?_)
  (try simp only [Act.put, List.setIfInBounds_toArray, List.set_cons_zero, List.set_cons_succ])
  refine wl_give rfl (g_pickt _ _ _ (.bool true) rfl rfl ?_)
  (try simp only [Act.put, List.setIfInBounds_toArray, List.set_cons_zero, List.set_cons_succ])
  refine wl_give rfl (g_move _ (.bool true) rfl ?_)
  (try simp only [Act.put, List.setIfInBounds_toArray, List.set_cons_zero, List.set_cons_succ])
  refine wl_give rfl (g_move _ (.int .i64 (10)) rfl ?_)
  (try simp only [Act.put, List.setIfInBounds_toArray, List.set_cons_zero, List.set_cons_succ])
  refine wl_give rfl (g_ieq 27 _ _ .i64 (10) (10) true rfl rfl (by decide) ?_)
  (try simp only [Act.put, List.setIfInBounds_toArray, List.set_cons_zero, List.set_cons_succ])
  refine wl_give rfl (g_pickt _ _ _ (.bool true) rfl rfl ?_)
  (try simp only [Act.put, List.setIfInBounds_toArray, List.set_cons_zero, List.set_cons_succ])
  refine wl_give rfl (g_move _ (.bool true) rfl ?_)
  (try simp only [Act.put, List.setIfInBounds_toArray, List.set_cons_zero, List.set_cons_succ])
  refine wl_give rfl (g_move _ (.int .i64 (10)) rfl ?_)
  (try simp only [Act.put, List.setIfInBounds_toArray, List.set_cons_zero, List.set_cons_succ])
  refine wl_give rfl (g_ieq 27 _ _ .i64 (10) (10) true rfl rfl (by decide) ?_)
  (try simp only [Act.put, List.setIfInBounds_toArray, List.set_cons_zero, List.set_cons_succ])
  refine wl_give rfl (g_pickt _ _ _ (.bool true) rfl rfl ?_)
  (try simp only [Act.put, List.setIfInBounds_toArray, List.set_cons_zero, List.set_cons_succ])
  refine wl_give rfl (g_move _ (.bool true) rfl ?_)
  (try simp only [Act.put, List.setIfInBounds_toArray, List.set_cons_zero, List.set_cons_succ])
  refine wl_give rfl (g_load_all 23 _ (w21.heap.size) (kc (zk)) 23 _ rfl (hM.get 3 rfl) Tryd.underlying23 rfl (szK _) ?_)
  (try simp only [Act.put, List.setIfInBounds_toArray, List.set_cons_zero, List.set_cons_succ])
  refine wl_give rfl (g_bldK0 ?_)
  (try simp only [Act.put, List.setIfInBounds_toArray, List.set_cons_zero, List.set_cons_succ])
  refine wl_give rfl (g_eqlK _ _ (zk) (zk) true rfl rfl (decide_eq_true rfl) ?_)
  (try simp only [Act.put, List.setIfInBounds_toArray, List.set_cons_zero, List.set_cons_succ])
  refine wl_give rfl (g_pickt _ _ _ (.bool true) rfl rfl ?_)
  (try simp only [Act.put, List.setIfInBounds_toArray, List.set_cons_zero, List.set_cons_succ])
  refine wl_give rfl (g_move _ (.bool true) rfl ?_)
  (try simp only [Act.put, List.setIfInBounds_toArray, List.set_cons_zero, List.set_cons_succ])
  refine wl_give rfl (g_move _ (.pointer (some ⟨p9, 0, none⟩)) rfl ?_)
  (try simp only [Act.put, List.setIfInBounds_toArray, List.set_cons_zero, List.set_cons_succ])
  refine wl_give rfl (g_call 12 _ _ [.pointer (some ⟨p9, 0, none⟩)] (kf12 _ _) rfl ((wleft_any (show Ms w w33 [wk p9 (k) L (k + 1) m27, blk (w31.heap.size) (kc (L)) 23, blk (w26.heap.size) (kc (zk)) 23, blk (w21.heap.size) (kc (zk)) 23, blk (w16.heap.size) (kc (L)) 23, blk (w.heap.size) (kc (s)) 23] from (hM.up 2 rfl)) (0) ⟨by omega⟩).mono ?_))
  rintro e w35 ⟨rfl, t_⟩
  refine ⟨_, rfl, ?_⟩
  replace hM := hM.call t_
  clear t_
  (try simp only [Act.put, List.setIfInBounds_toArray, List.set_cons_zero, List.set_cons_succ])
  refine wl_give rfl (g_ieq 3 _ _ .i64 (0) (0) true rfl rfl (by decide) ?_)
  (try simp only [Act.put, List.setIfInBounds_toArray, List.set_cons_zero, List.set_cons_succ])
  refine wl_give rfl (g_pickt _ _ _ (.bool true) rfl rfl ?_)
  (try simp only [Act.put, List.setIfInBounds_toArray, List.set_cons_zero, List.set_cons_succ])
  refine wl_give rfl (g_move _ (.bool true) rfl ?_)
  (try simp only [Act.put, List.setIfInBounds_toArray, List.set_cons_zero, List.set_cons_succ])
  refine wl_give rfl (g_move _ (.pointer (some ⟨p9, 0, none⟩)) rfl ?_)
  (try simp only [Act.put, List.setIfInBounds_toArray, List.set_cons_zero, List.set_cons_succ])
  refine wl_give rfl (g_call 13 _ _ [.pointer (some ⟨p9, 0, none⟩)] (kf13 _ _) rfl ((wminds_any (show Ms w w35 [wk p9 (k) L (k + 1) m27, blk (w31.heap.size) (kc (L)) 23, blk (w26.heap.size) (kc (zk)) 23, blk (w21.heap.size) (kc (zk)) 23, blk (w16.heap.size) (kc (L)) 23, blk (w.heap.size) (kc (s)) 23] from (hM.up 2 rfl))).mono ?_))
  rintro e w36 ⟨rfl, t_⟩
  refine ⟨_, rfl, ?_⟩
  replace hM := hM.call t_
  clear t_
  (try simp only [Act.put, List.setIfInBounds_toArray, List.set_cons_zero, List.set_cons_succ])
  refine wl_give rfl (g_ieq 3 _ _ .i64 (((m27 : Nat) : Int)) (0) true rfl rfl (decide_eq_true (by have := (wk_few (show Ms w _ [wk p9 (k) L (k + 1) m27, blk (w31.heap.size) (kc (L)) 23, blk (w26.heap.size) (kc (zk)) 23, blk (w21.heap.size) (kc (zk)) 23, blk (w16.heap.size) (kc (L)) 23, blk (w.heap.size) (kc (s)) 23] from (hM.up 2 rfl))).2.2.2.2 rfl; omega)) ?_)
  (try simp only [Act.put, List.setIfInBounds_toArray, List.set_cons_zero, List.set_cons_succ])
  refine wl_give rfl (g_pickt _ _ _ (.bool true) rfl rfl ?_)
  (try simp only [Act.put, List.setIfInBounds_toArray, List.set_cons_zero, List.set_cons_succ])
  refine wl_give rfl (g_move _ (.bool true) rfl ?_)
  (try simp only [Act.put, List.setIfInBounds_toArray, List.set_cons_zero, List.set_cons_succ])
  refine wl_give rfl (g_move _ (.pointer (some ⟨p9, 0, none⟩)) rfl ?_)
  (try simp only [Act.put, List.setIfInBounds_toArray, List.set_cons_zero, List.set_cons_succ])
  refine wl_give rfl (g_move _ (.int .i64 (((k : Nat) : Int))) rfl ?_)
  (try simp only [Act.put, List.setIfInBounds_toArray, List.set_cons_zero, List.set_cons_succ])
  refine wl_give rfl (g_call 17 _ _ [.pointer (some ⟨p9, 0, none⟩), .int .i64 (((k : Nat) : Int))] (kf17 _ _) rfl ((pskip_no (show Ms w w36 [wk p9 (k) L (k + 1) m27, blk (w31.heap.size) (kc (L)) 23, blk (w26.heap.size) (kc (zk)) 23, blk (w21.heap.size) (kc (zk)) 23, blk (w16.heap.size) (kc (L)) 23, blk (w.heap.size) (kc (s)) 23] from (hM.up 2 rfl)) (((k : Nat) : Int)) (.inl (by omega))).mono ?_))
  rintro e w37 ⟨rfl, t_⟩
  refine ⟨_, rfl, ?_⟩
  replace hM := hM.call t_
  clear t_
  (try simp only [Act.put, List.setIfInBounds_toArray, List.set_cons_zero, List.set_cons_succ])
  refine wl_give rfl (g_ieq 27 _ _ .i64 (1) (1) true rfl rfl (by decide) ?_)
  (try simp only [Act.put, List.setIfInBounds_toArray, List.set_cons_zero, List.set_cons_succ])
  refine wl_give rfl (g_pickt _ _ _ (.bool true) rfl rfl ?_)
  (try simp only [Act.put, List.setIfInBounds_toArray, List.set_cons_zero, List.set_cons_succ])
  refine wl_give rfl (g_move _ (.bool true) rfl ?_)
  (try simp only [Act.put, List.setIfInBounds_toArray, List.set_cons_zero, List.set_cons_succ])
  refine wl_give rfl (g_move _ (.pointer (some ⟨p9, 0, none⟩)) rfl ?_)
  (try simp only [Act.put, List.setIfInBounds_toArray, List.set_cons_zero, List.set_cons_succ])
  refine wl_give rfl (g_call 11 _ _ [.pointer (some ⟨p9, 0, none⟩)] (kf11 _ _) rfl ((wat_any (show Ms w w37 [wk p9 (k) L (k + 1) m27, blk (w31.heap.size) (kc (L)) 23, blk (w26.heap.size) (kc (zk)) 23, blk (w21.heap.size) (kc (zk)) 23, blk (w16.heap.size) (kc (L)) 23, blk (w.heap.size) (kc (s)) 23] from (hM.up 2 rfl))).mono ?_))
  rintro e w38 ⟨rfl, t_⟩
  refine ⟨_, rfl, ?_⟩
  replace hM := hM.call t_
  clear t_
  (try simp only [Act.put, List.setIfInBounds_toArray, List.set_cons_zero, List.set_cons_succ])
  refine wl_give rfl (g_move _ (.int .i64 (((k : Nat) : Int))) rfl ?_)
  (try simp only [Act.put, List.setIfInBounds_toArray, List.set_cons_zero, List.set_cons_succ])
  refine wl_give rfl (g_ia 3 _ _ .i64 (((k : Nat) : Int)) (1) (((k + 1 : Nat) : Int)) rfl rfl ek1.out ?_)
  (try simp only [Act.put, List.setIfInBounds_toArray, List.set_cons_zero, List.set_cons_succ])
  refine wl_give rfl (g_ieq 3 _ _ .i64 (((k + 1 : Nat) : Int)) (((k + 1 : Nat) : Int)) true rfl rfl (decide_eq_true rfl) ?_)
  (try simp only [Act.put, List.setIfInBounds_toArray, List.set_cons_zero, List.set_cons_succ])
  refine wl_give rfl (g_pickt _ _ _ (.bool true) rfl rfl ?_)
  (try simp only [Act.put, List.setIfInBounds_toArray, List.set_cons_zero, List.set_cons_succ])
  refine wl_give rfl (g_assign _ (.bool true) rfl ?_)
  (try simp only [Act.put, List.setIfInBounds_toArray, List.set_cons_zero, List.set_cons_succ])
  refine wl_nil ?_
  refine hK34 _ _ ?_
  (try clear hK34 K34)
  refine wp_ret ?_
  go_ret
  exact ⟨rfl, hM.below⟩
theorem walk (l0 : List UInt8) (h0 : l0.length = 32) (n : Int) (hn : (Lit.int .u16 n).wf = true) (w : World) (hT : Tabs w) : Calls Tryd.prog 8 #[.agg (bc l0).toArray, .int .u16 n] w fun e w' => e = .returned (.bool true) ∧ Below w.heap.size w w' := by
  obtain ⟨F, eF, hF⟩ := rem_nat n 1024 (by decide) (in_u16 hn).1
  have g : ∀ x : Int, -9223372036854775808 ≤ x → x ≤ 9223372036854775807 → Shut (IntKind.i64.wrap x = x) := fun x a b => ⟨wrap_id x a b⟩
  obtain ⟨L, hL⟩ : ∃ L, tg ⟨l0, h0⟩ chainW = L := ⟨_, rfl⟩
  refine walk_a ⟨l0, h0⟩ n w hT F (F + 1) L ⟨eF⟩ (g _ (by omega) (by omega)) (g _ (by omega) (by omega)) (g _ (by omega) (by omega)) (by omega) (by omega) ⟨hL⟩ ⟨sk_ok (F + 1) 0 (F + 1) (by omega) (by omega)⟩ ⟨?_⟩ ⟨nx_end _ _ _ (by omega)⟩ ⟨?_⟩
  · rw [nx_ok _ _ _ (Nat.le_refl _), Nat.sub_self, wl_zero]
  · rw [ky_ok _ 1 1 (by decide) (by decide) (by decide) (by decide), hL]; rfl
end Go.Proofs.YtdfpnicpcndkjaaDoor.pebbleEnds
