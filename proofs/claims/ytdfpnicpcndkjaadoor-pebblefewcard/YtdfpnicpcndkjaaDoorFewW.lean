/- PebbleFew: the walk. -/
import Derived.Test.YtdfpnicpcndkjaaDoorAwake
import Derived.WalkKit
import Derived.WalkSpells
import Derived.WalkLawsBesides
namespace Go.Proofs.YtdfpnicpcndkjaaDoor.pebbleFew
set_option maxRecDepth 10000
open Go Go.RowKit
set_option linter.unusedVariables false
set_option linter.unusedSimpArgs false

set_option maxHeartbeats 4000000 in
theorem walk_a (s : Ky) (n u : Int) (w : World) (hT : Tabs w) (F G d : Int) (k t : Nat) (L X Y : Ky) (eF : Shut (n.tmod 1024 = F)) (wF : Shut (IntKind.i64.wrap F = F)) (ek : Shut (IntKind.i64.wrap (F + 1) = ((k : Nat) : Int))) (wu : Shut (IntKind.i64.wrap u = u)) (eG : Shut (u.tmod ((k : Nat) : Int) = G)) (et : Shut (IntKind.i64.wrap (1 + G) = ((t : Nat) : Int))) (et1 : Shut (IntKind.i64.wrap (((t : Nat) : Int) + 1) = ((t + 1 : Nat) : Int))) (ed : Shut (IntKind.i64.wrap (((k : Nat) : Int) - ((t : Nat) : Int)) = d)) (hd : Shut ((k : Int) - t = d)) (h1 : 1 ≤ k) (h2 : k ≤ 1024) (hL : Shut (tg s chainW = L)) (hA : Shut (nx k L 0 = ((X, 0), 1))) (hS : Shut (sk k 1 ((t : Nat) : Int) = (0, t))) (hB : Shut (nx k L t = ((Y, 0), t + 1))) : Calls Tryd.prog 5 #[.agg (kc s).toArray, .int .u16 n, .int .u16 u] w fun e w' => e = .returned (.bool true) ∧ Below w.heap.size w w' := by
  have hM := Ms.refl w
  go_enter Tryd.func5, Tryd.ntmps5
  refine wp_seq_k (fun K1 hK1 => ?_)
  refine wl_region ?_
  refine wl_give rfl (g_box 23 _ (kc (s)) rfl ?_)
  intro w2 t_ b_
  replace hM : Ms w w2 [blk (w.heap.size) (kc (s)) 23] := hM.new t_ b_
  clear t_ b_
  (try simp only [Act.put, List.setIfInBounds_toArray, List.set_cons_zero, List.set_cons_succ])
  refine wl_give rfl (g_assign _ (.bool false) rfl ?_)
  (try simp only [Act.put, List.setIfInBounds_toArray, List.set_cons_zero, List.set_cons_succ])
  refine wl_nil ?_
  refine hK1 _ _ ?_
  (try clear hK1 K1)
  refine wp_seq_k (fun K3 hK3 => ?_)
  refine wp_seq_k (fun K4 hK4 => ?_)
  refine wl_region ?_
  refine wl_give rfl (g_call 9 _ _ [] (kf9 _ _) rfl ((awake_any w2 (hM.tabs hT)).mono ?_))
  rintro e w5 ⟨rfl, t_⟩
  refine ⟨_, rfl, ?_⟩
  replace hM := hM.call t_
  clear t_
  (try simp only [Act.put, List.setIfInBounds_toArray, List.set_cons_zero, List.set_cons_succ])
  refine wl_give rfl (g_unot 4 _ true rfl ?_)
  (try simp only [Act.put, List.setIfInBounds_toArray, List.set_cons_zero, List.set_cons_succ])
  refine wl_nil ?_
  refine hK4 _ _ ?_
  (try clear hK4 K4)
  refine wp_cond_false rfl ?_
  refine wp_skip ?_
  refine hK3 _ _ ?_
  (try clear hK3 K3)
  refine wp_seq_k (fun K6 hK6 => ?_)
  refine wl_region ?_
  refine wl_give rfl (g_move _ (.int .u16 (n)) rfl ?_)
  (try simp only [Act.put, List.setIfInBounds_toArray, List.set_cons_zero, List.set_cons_succ])
  refine wl_give rfl (g_irem 41 _ _ .u16 (n) (1024) (F) rfl rfl (by decide) eF.out ?_)
  (try simp only [Act.put, List.setIfInBounds_toArray, List.set_cons_zero, List.set_cons_succ])
  refine wl_give rfl (g_cv_41_3 _ (F) (F) rfl (wF.out) ?_)
  (try simp only [Act.put, List.setIfInBounds_toArray, List.set_cons_zero, List.set_cons_succ])
  refine wl_give rfl (g_ia 3 _ _ .i64 (F) (1) (((k : Nat) : Int)) rfl rfl ek.out ?_)
  (try simp only [Act.put, List.setIfInBounds_toArray, List.set_cons_zero, List.set_cons_succ])
  refine wl_give rfl (g_assign _ (.int .i64 (((k : Nat) : Int))) rfl ?_)
  (try simp only [Act.put, List.setIfInBounds_toArray, List.set_cons_zero, List.set_cons_succ])
  refine wl_nil ?_
  refine hK6 _ _ ?_
  (try clear hK6 K6)
  refine wp_seq_k (fun K7 hK7 => ?_)
  refine wl_region ?_
  refine wl_give rfl (g_load_all 23 _ (w.heap.size) (kc (s)) 23 _ rfl (hM.get 0 rfl) Tryd.underlying23 rfl (szK _) ?_)
  (try simp only [Act.put, List.setIfInBounds_toArray, List.set_cons_zero, List.set_cons_succ])
  refine wl_give rfl (g_move _ (.int .i64 (((k : Nat) : Int))) rfl ?_)
  (try simp only [Act.put, List.setIfInBounds_toArray, List.set_cons_zero, List.set_cons_succ])
  refine wl_give rfl (g_call 10 _ _ [.agg (kc (s)).toArray, .int .i64 (((k : Nat) : Int))] (kf10 _ _) rfl ((wnew_any s (k) L w w5 _ hM hT h1 h2 hL).mono ?_))
  rintro e w8 ⟨p9, rfl, h_⟩
  refine ⟨_, rfl, ?_⟩
  replace hM : Ms w w8 [wk p9 (k) L (0) 1, blk (w.heap.size) (kc (s)) 23] := h_
  clear h_
  (try simp only [Act.put, List.setIfInBounds_toArray, List.set_cons_zero, List.set_cons_succ])
  refine wl_give rfl (g_move _ (.tuple #[.pointer (some ⟨p9, 0, none⟩), .int .i64 (0)]) rfl ?_)
  (try simp only [Act.put, List.setIfInBounds_toArray, List.set_cons_zero, List.set_cons_succ])
  refine wl_give rfl (g_extract _ #[.pointer (some ⟨p9, 0, none⟩), .int .i64 (0)] 0 (.pointer (some ⟨p9, 0, none⟩)) rfl rfl ?_)
  (try simp only [Act.put, List.setIfInBounds_toArray, List.set_cons_zero, List.set_cons_succ])
  refine wl_give rfl (g_extract _ #[.pointer (some ⟨p9, 0, none⟩), .int .i64 (0)] 1 (.int .i64 (0)) rfl rfl ?_)
  (try simp only [Act.put, List.setIfInBounds_toArray, List.set_cons_zero, List.set_cons_succ])
  refine wl_give rfl (g_assign _ (.pointer (some ⟨p9, 0, none⟩)) rfl ?_)
  (try simp only [Act.put, List.setIfInBounds_toArray, List.set_cons_zero, List.set_cons_succ])
  refine wl_give rfl (g_assign _ (.int .i64 (0)) rfl ?_)
  (try simp only [Act.put, List.setIfInBounds_toArray, List.set_cons_zero, List.set_cons_succ])
  refine wl_nil ?_
  refine hK7 _ _ ?_
  (try clear hK7 K7)
  refine wp_seq_k (fun K10 hK10 => ?_)
  refine wp_seq_k (fun K11 hK11 => ?_)
  refine wl_region ?_
  refine wl_give rfl (g_move _ (.pointer (some ⟨p9, 0, none⟩)) rfl ?_)
  (try simp only [Act.put, List.setIfInBounds_toArray, List.set_cons_zero, List.set_cons_succ])
  refine wl_give rfl (g_peq _ ((some ⟨p9, 0, none⟩)) false rfl rfl ?_)
  (try simp only [Act.put, List.setIfInBounds_toArray, List.set_cons_zero, List.set_cons_succ])
  refine wl_give rfl (g_move _ (.bool false) rfl ?_)
  (try simp only [Act.put, List.setIfInBounds_toArray, List.set_cons_zero, List.set_cons_succ])
  refine wl_give rfl (g_move _ (.int .i64 (0)) rfl ?_)
  (try simp only [Act.put, List.setIfInBounds_toArray, List.set_cons_zero, List.set_cons_succ])
  refine wl_give rfl (g_ine 27 _ _ .i64 (0) (0) false rfl rfl (by decide) ?_)
  (try simp only [Act.put, List.setIfInBounds_toArray, List.set_cons_zero, List.set_cons_succ])
  refine wl_give rfl (g_pickf _ _ _ (.bool false) rfl rfl ?_)
  (try simp only [Act.put, List.setIfInBounds_toArray, List.set_cons_zero, List.set_cons_succ])
  refine wl_nil ?_
  refine hK11 _ _ ?_
  (try clear hK11 K11)
  refine wp_cond_false rfl ?_
  refine wp_skip ?_
  refine hK10 _ _ ?_
  (try clear hK10 K10)
  refine wp_seq_k (fun K12 hK12 => ?_)
  refine wl_region ?_
  refine wl_give rfl (g_move _ (.pointer (some ⟨p9, 0, none⟩)) rfl ?_)
  (try simp only [Act.put, List.setIfInBounds_toArray, List.set_cons_zero, List.set_cons_succ])
  refine wl_give rfl (g_call 15 _ _ [.pointer (some ⟨p9, 0, none⟩)] (kf15 _ _) rfl ((pnext_any hM hT X 0 (1) hA).mono ?_))
  rintro e w13 ⟨m14, rfl, h_⟩
  refine ⟨_, rfl, ?_⟩
  replace hM : Ms w w13 [wk p9 (k) L (1) m14, blk (w.heap.size) (kc (s)) 23] := h_
  clear h_
  (try simp only [Act.put, List.setIfInBounds_toArray, List.set_cons_zero, List.set_cons_succ])
  refine wl_give rfl (g_move _ (.tuple #[.agg (kc (X)).toArray, .int .i64 (0)]) rfl ?_)
  (try simp only [Act.put, List.setIfInBounds_toArray, List.set_cons_zero, List.set_cons_succ])
  refine wl_give rfl (g_extract _ #[.agg (kc (X)).toArray, .int .i64 (0)] 0 (.agg (kc (X)).toArray) rfl rfl ?_)
  (try simp only [Act.put, List.setIfInBounds_toArray, List.set_cons_zero, List.set_cons_succ])
  refine wl_give rfl (g_extract _ #[.agg (kc (X)).toArray, .int .i64 (0)] 1 (.int .i64 (0)) rfl rfl ?_)
  (try simp only [Act.put, List.setIfInBounds_toArray, List.set_cons_zero, List.set_cons_succ])
  refine wl_give rfl (g_alloc 23 (kc (zk)) zeroK ?_)
  intro w15 t_ b_
  replace hM : Ms w w15 [blk (w13.heap.size) (kc (zk)) 23, wk p9 (k) L (1) m14, blk (w.heap.size) (kc (s)) 23] := hM.new t_ b_
  clear t_ b_
  (try simp only [Act.put, List.setIfInBounds_toArray, List.set_cons_zero, List.set_cons_succ])
  refine wl_give rfl (g_store_all 23 _ _ (w13.heap.size) (kc (X)) _ 23 rfl rfl (hM.get 0 rfl) (szK _) (kk_len _ _) (one_kc _) ?_)
  intro w16 t_ b_
  replace hM : Ms w w16 [blk (w13.heap.size) (kc (X)) 23, wk p9 (k) L (1) m14, blk (w.heap.size) (kc (s)) 23] := hM.put 0 rfl t_ b_
  clear t_ b_
  (try simp only [Act.put, List.setIfInBounds_toArray, List.set_cons_zero, List.set_cons_succ])
  refine wl_give rfl (g_assign _ (.int .i64 (0)) rfl ?_)
  (try simp only [Act.put, List.setIfInBounds_toArray, List.set_cons_zero, List.set_cons_succ])
  refine wl_nil ?_
  refine hK12 _ _ ?_
  (try clear hK12 K12)
  refine wp_seq_k (fun K17 hK17 => ?_)
  refine wp_seq_k (fun K18 hK18 => ?_)
  refine wl_region ?_
  refine wl_give rfl (g_move _ (.int .i64 (0)) rfl ?_)
  (try simp only [Act.put, List.setIfInBounds_toArray, List.set_cons_zero, List.set_cons_succ])
  refine wl_give rfl (g_ine 27 _ _ .i64 (0) (0) false rfl rfl (by decide) ?_)
  (try simp only [Act.put, List.setIfInBounds_toArray, List.set_cons_zero, List.set_cons_succ])
  refine wl_give rfl (g_move _ (.bool false) rfl ?_)
  (try simp only [Act.put, List.setIfInBounds_toArray, List.set_cons_zero, List.set_cons_succ])
  refine wl_give rfl (g_move _ (.pointer (some ⟨p9, 0, none⟩)) rfl ?_)
  (try simp only [Act.put, List.setIfInBounds_toArray, List.set_cons_zero, List.set_cons_succ])
  refine wl_give rfl (g_call 13 _ _ [.pointer (some ⟨p9, 0, none⟩)] (kf13 _ _) rfl ((wminds_any (show Ms w w16 [wk p9 (k) L (1) m14, blk (w13.heap.size) (kc (X)) 23, blk (w.heap.size) (kc (s)) 23] from (hM.up 1 rfl))).mono ?_))
  rintro e w19 ⟨rfl, t_⟩
  refine ⟨_, rfl, ?_⟩
  replace hM := hM.call t_
  clear t_
  (try simp only [Act.put, List.setIfInBounds_toArray, List.set_cons_zero, List.set_cons_succ])
  refine wl_give rfl (g_move _ (.int .i64 (((k : Nat) : Int))) rfl ?_)
  (try simp only [Act.put, List.setIfInBounds_toArray, List.set_cons_zero, List.set_cons_succ])
  refine wl_give rfl (g_call 14 _ _ [.int .i64 (((k : Nat) : Int))] (kf14 _ _) rfl ((most_any k h1 h2 w19).mono ?_))
  rintro e w20 ⟨rfl, t_⟩
  refine ⟨_, rfl, ?_⟩
  replace hM := hM.call t_
  clear t_
  (try simp only [Act.put, List.setIfInBounds_toArray, List.set_cons_zero, List.set_cons_succ])
  refine wl_give rfl (g_igtr 3 _ _ .i64 (((m14 : Nat) : Int)) (((mo k : Nat) : Int)) false rfl rfl (decide_eq_false (by have := wk_few (show Ms w _ [wk p9 (k) L (1) m14, blk (w13.heap.size) (kc (X)) 23, blk (w.heap.size) (kc (s)) 23] from (hM.up 1 rfl)); omega)) ?_)
  (try simp only [Act.put, List.setIfInBounds_toArray, List.set_cons_zero, List.set_cons_succ])
  refine wl_give rfl (g_pickf _ _ _ (.bool false) rfl rfl ?_)
  (try simp only [Act.put, List.setIfInBounds_toArray, List.set_cons_zero, List.set_cons_succ])
  refine wl_nil ?_
  refine hK18 _ _ ?_
  (try clear hK18 K18)
  refine wp_cond_false rfl ?_
  refine wp_skip ?_
  refine hK17 _ _ ?_
  (try clear hK17 K17)
  refine wp_seq_k (fun K21 hK21 => ?_)
  refine wl_region ?_
  refine wl_give rfl (g_move _ (.int .u16 (u)) rfl ?_)
  (try simp only [Act.put, List.setIfInBounds_toArray, List.set_cons_zero, List.set_cons_succ])
  refine wl_give rfl (g_cv_41_3 _ (u) (u) rfl (wu.out) ?_)
  (try simp only [Act.put, List.setIfInBounds_toArray, List.set_cons_zero, List.set_cons_succ])
  refine wl_give rfl (g_move _ (.int .i64 (((k : Nat) : Int))) rfl ?_)
  (try simp only [Act.put, List.setIfInBounds_toArray, List.set_cons_zero, List.set_cons_succ])
  refine wl_give rfl (g_irem 3 _ _ .i64 (u) (((k : Nat) : Int)) (G) rfl rfl (by omega) eG.out ?_)
  (try simp only [Act.put, List.setIfInBounds_toArray, List.set_cons_zero, List.set_cons_succ])
  refine wl_give rfl (g_ia 3 _ _ .i64 (1) (G) (((t : Nat) : Int)) rfl rfl et.out ?_)
  (try simp only [Act.put, List.setIfInBounds_toArray, List.set_cons_zero, List.set_cons_succ])
  refine wl_give rfl (g_assign _ (.int .i64 (((t : Nat) : Int))) rfl ?_)
  (try simp only [Act.put, List.setIfInBounds_toArray, List.set_cons_zero, List.set_cons_succ])
  refine wl_nil ?_
  refine hK21 _ _ ?_
  (try clear hK21 K21)
  refine wp_seq_k (fun K22 hK22 => ?_)
  refine wl_region ?_
  refine wl_give rfl (g_move _ (.pointer (some ⟨p9, 0, none⟩)) rfl ?_)
  (try simp only [Act.put, List.setIfInBounds_toArray, List.set_cons_zero, List.set_cons_succ])
  refine wl_give rfl (g_move _ (.int .i64 (((t : Nat) : Int))) rfl ?_)
  (try simp only [Act.put, List.setIfInBounds_toArray, List.set_cons_zero, List.set_cons_succ])
  refine wl_give rfl (g_call 17 _ _ [.pointer (some ⟨p9, 0, none⟩), .int .i64 (((t : Nat) : Int))] (kf17 _ _) rfl ((pskip_any (show Ms w w20 [wk p9 (k) L (1) m14, blk (w13.heap.size) (kc (X)) 23, blk (w.heap.size) (kc (s)) 23] from (hM.up 1 rfl)) (((t : Nat) : Int)) 0 (t) hS).mono ?_))
  rintro e w23 ⟨m24, rfl, h_⟩
  refine ⟨_, rfl, ?_⟩
  replace hM : Ms w w23 [wk p9 (k) L (t) m24, blk (w13.heap.size) (kc (X)) 23, blk (w.heap.size) (kc (s)) 23] := h_
  clear h_
  (try simp only [Act.put, List.setIfInBounds_toArray, List.set_cons_zero, List.set_cons_succ])
  refine wl_give rfl (g_assign _ (.int .i64 (0)) rfl ?_)
  (try simp only [Act.put, List.setIfInBounds_toArray, List.set_cons_zero, List.set_cons_succ])
  refine wl_nil ?_
  refine hK22 _ _ ?_
  (try clear hK22 K22)
  refine wp_seq_k (fun K25 hK25 => ?_)
  refine wp_seq_k (fun K26 hK26 => ?_)
  refine wl_region ?_
  refine wl_give rfl (g_move _ (.int .i64 (0)) rfl ?_)
  (try simp only [Act.put, List.setIfInBounds_toArray, List.set_cons_zero, List.set_cons_succ])
  refine wl_give rfl (g_ine 27 _ _ .i64 (0) (0) false rfl rfl (by decide) ?_)
  (try simp only [Act.put, List.setIfInBounds_toArray, List.set_cons_zero, List.set_cons_succ])
  refine wl_give rfl (g_move _ (.bool false) rfl ?_)
  (try simp only [Act.put, List.setIfInBounds_toArray, List.set_cons_zero, List.set_cons_succ])
  refine wl_give rfl (g_move _ (.pointer (some ⟨p9, 0, none⟩)) rfl ?_)
  (try simp only [Act.put, List.setIfInBounds_toArray, List.set_cons_zero, List.set_cons_succ])
  refine wl_give rfl (g_call 11 _ _ [.pointer (some ⟨p9, 0, none⟩)] (kf11 _ _) rfl ((wat_any hM).mono ?_))
  rintro e w27 ⟨rfl, t_⟩
  refine ⟨_, rfl, ?_⟩
  replace hM := hM.call t_
  clear t_
  (try simp only [Act.put, List.setIfInBounds_toArray, List.set_cons_zero, List.set_cons_succ])
  refine wl_give rfl (g_move _ (.int .i64 (((t : Nat) : Int))) rfl ?_)
  (try simp only [Act.put, List.setIfInBounds_toArray, List.set_cons_zero, List.set_cons_succ])
  refine wl_give rfl (g_ine 3 _ _ .i64 (((t : Nat) : Int)) (((t : Nat) : Int)) false rfl rfl (decide_eq_false (fun h => h rfl)) ?_)
  (try simp only [Act.put, List.setIfInBounds_toArray, List.set_cons_zero, List.set_cons_succ])
  refine wl_give rfl (g_pickf _ _ _ (.bool false) rfl rfl ?_)
  (try simp only [Act.put, List.setIfInBounds_toArray, List.set_cons_zero, List.set_cons_succ])
  refine wl_give rfl (g_move _ (.bool false) rfl ?_)
  (try simp only [Act.put, List.setIfInBounds_toArray, List.set_cons_zero, List.set_cons_succ])
  refine wl_give rfl (g_move _ (.pointer (some ⟨p9, 0, none⟩)) rfl ?_)
  (try simp only [Act.put, List.setIfInBounds_toArray, List.set_cons_zero, List.set_cons_succ])
  refine wl_give rfl (g_call 13 _ _ [.pointer (some ⟨p9, 0, none⟩)] (kf13 _ _) rfl ((wminds_any hM).mono ?_))
  rintro e w28 ⟨rfl, t_⟩
  refine ⟨_, rfl, ?_⟩
  replace hM := hM.call t_
  clear t_
  (try simp only [Act.put, List.setIfInBounds_toArray, List.set_cons_zero, List.set_cons_succ])
  refine wl_give rfl (g_move _ (.int .i64 (((k : Nat) : Int))) rfl ?_)
  (try simp only [Act.put, List.setIfInBounds_toArray, List.set_cons_zero, List.set_cons_succ])
  refine wl_give rfl (g_call 14 _ _ [.int .i64 (((k : Nat) : Int))] (kf14 _ _) rfl ((most_any k h1 h2 w28).mono ?_))
  rintro e w29 ⟨rfl, t_⟩
  refine ⟨_, rfl, ?_⟩
  replace hM := hM.call t_
  clear t_
  (try simp only [Act.put, List.setIfInBounds_toArray, List.set_cons_zero, List.set_cons_succ])
  refine wl_give rfl (g_igtr 3 _ _ .i64 (((m24 : Nat) : Int)) (((mo k : Nat) : Int)) false rfl rfl (decide_eq_false (by have := wk_few hM; omega)) ?_)
  (try simp only [Act.put, List.setIfInBounds_toArray, List.set_cons_zero, List.set_cons_succ])
  refine wl_give rfl (g_pickf _ _ _ (.bool false) rfl rfl ?_)
  (try simp only [Act.put, List.setIfInBounds_toArray, List.set_cons_zero, List.set_cons_succ])
  refine wl_nil ?_
  refine hK26 _ _ ?_
  (try clear hK26 K26)
  refine wp_cond_false rfl ?_
  refine wp_skip ?_
  refine hK25 _ _ ?_
  (try clear hK25 K25)
  refine wp_seq_k (fun K30 hK30 => ?_)
  refine wl_region ?_
  refine wl_give rfl (g_move _ (.pointer (some ⟨p9, 0, none⟩)) rfl ?_)
  (try simp only [Act.put, List.setIfInBounds_toArray, List.set_cons_zero, List.set_cons_succ])
  refine wl_give rfl (g_call 15 _ _ [.pointer (some ⟨p9, 0, none⟩)] (kf15 _ _) rfl ((pnext_any hM hT Y 0 (t + 1) hB).mono ?_))
  rintro e w31 ⟨m32, rfl, h_⟩
  refine ⟨_, rfl, ?_⟩
  replace hM : Ms w w31 [wk p9 (k) L (t + 1) m32, blk (w13.heap.size) (kc (X)) 23, blk (w.heap.size) (kc (s)) 23] := h_
  clear h_
  (try simp only [Act.put, List.setIfInBounds_toArray, List.set_cons_zero, List.set_cons_succ])
  refine wl_give rfl (g_move _ (.tuple #[.agg (kc (Y)).toArray, .int .i64 (0)]) rfl ?_)
  (try simp only [Act.put, List.setIfInBounds_toArray, List.set_cons_zero, List.set_cons_succ])
  refine wl_give rfl (g_extract _ #[.agg (kc (Y)).toArray, .int .i64 (0)] 0 (.agg (kc (Y)).toArray) rfl rfl ?_)
  (try simp only [Act.put, List.setIfInBounds_toArray, List.set_cons_zero, List.set_cons_succ])
  refine wl_give rfl (g_extract _ #[.agg (kc (Y)).toArray, .int .i64 (0)] 1 (.int .i64 (0)) rfl rfl ?_)
  (try simp only [Act.put, List.setIfInBounds_toArray, List.set_cons_zero, List.set_cons_succ])
  refine wl_give rfl (g_alloc 23 (kc (zk)) zeroK ?_)
  intro w33 t_ b_
  replace hM : Ms w w33 [blk (w31.heap.size) (kc (zk)) 23, wk p9 (k) L (t + 1) m32, blk (w13.heap.size) (kc (X)) 23, blk (w.heap.size) (kc (s)) 23] := hM.new t_ b_
  clear t_ b_
  (try simp only [Act.put, List.setIfInBounds_toArray, List.set_cons_zero, List.set_cons_succ])
  refine wl_give rfl (g_store_all 23 _ _ (w31.heap.size) (kc (Y)) _ 23 rfl rfl (hM.get 0 rfl) (szK _) (kk_len _ _) (one_kc _) ?_)
  intro w34 t_ b_
  replace hM : Ms w w34 [blk (w31.heap.size) (kc (Y)) 23, wk p9 (k) L (t + 1) m32, blk (w13.heap.size) (kc (X)) 23, blk (w.heap.size) (kc (s)) 23] := hM.put 0 rfl t_ b_
  clear t_ b_
  (try simp only [Act.put, List.setIfInBounds_toArray, List.set_cons_zero, List.set_cons_succ])
  refine wl_give rfl (g_assign _ (.int .i64 (0)) rfl ?_)
  (try simp only [Act.put, List.setIfInBounds_toArray, List.set_cons_zero, List.set_cons_succ])
  refine wl_nil ?_
  refine hK30 _ _ ?_
  (try clear hK30 K30)
  refine wp_seq_k (fun K35 hK35 => ?_)
  refine wl_region ?_
  refine wl_give rfl (g_move _ (.int .i64 (0)) rfl ?_)
  (try simp only [Act.put, List.setIfInBounds_toArray, List.set_cons_zero, List.set_cons_succ])
  refine wl_give rfl (g_ieq 27 _ _ .i64 (0) (0) true rfl rfl (by decide) ?_)
  (try simp only [Act.put, List.setIfInBounds_toArray, List.set_cons_zero, List.set_cons_succ])
  refine wl_give rfl (g_move _ (.bool true) rfl ?_)
  (try simp only [Act.put, List.setIfInBounds_toArray, List.set_cons_zero, List.set_cons_succ])
  refine wl_give rfl (g_move _ (.pointer (some ⟨p9, 0, none⟩)) rfl ?_)
  (try simp only [Act.put, List.setIfInBounds_toArray, List.set_cons_zero, List.set_cons_succ])
  refine wl_give rfl (g_call 11 _ _ [.pointer (some ⟨p9, 0, none⟩)] (kf11 _ _) rfl ((wat_any (show Ms w w34 [wk p9 (k) L (t + 1) m32, blk (w31.heap.size) (kc (Y)) 23, blk (w13.heap.size) (kc (X)) 23, blk (w.heap.size) (kc (s)) 23] from (hM.up 1 rfl))).mono ?_))
  rintro e w36 ⟨rfl, t_⟩
  refine ⟨_, rfl, ?_⟩
  replace hM := hM.call t_
  clear t_
  (try simp only [Act.put, List.setIfInBounds_toArray, List.set_cons_zero, List.set_cons_succ])
  refine wl_give rfl (g_move _ (.int .i64 (((t : Nat) : Int))) rfl ?_)
  (try simp only [Act.put, List.setIfInBounds_toArray, List.set_cons_zero, List.set_cons_succ])
  refine wl_give rfl (g_ia 3 _ _ .i64 (((t : Nat) : Int)) (1) (((t + 1 : Nat) : Int)) rfl rfl et1.out ?_)
  (try simp only [Act.put, List.setIfInBounds_toArray, List.set_cons_zero, List.set_cons_succ])
  refine wl_give rfl (g_ieq 3 _ _ .i64 (((t + 1 : Nat) : Int)) (((t + 1 : Nat) : Int)) true rfl rfl (decide_eq_true rfl) ?_)
  (try simp only [Act.put, List.setIfInBounds_toArray, List.set_cons_zero, List.set_cons_succ])
  refine wl_give rfl (g_pickt _ _ _ (.bool true) rfl rfl ?_)
  (try simp only [Act.put, List.setIfInBounds_toArray, List.set_cons_zero, List.set_cons_succ])
  refine wl_give rfl (g_move _ (.bool true) rfl ?_)
  (try simp only [Act.put, List.setIfInBounds_toArray, List.set_cons_zero, List.set_cons_succ])
  refine wl_give rfl (g_move _ (.pointer (some ⟨p9, 0, none⟩)) rfl ?_)
  (try simp only [Act.put, List.setIfInBounds_toArray, List.set_cons_zero, List.set_cons_succ])
  refine wl_give rfl (g_call 12 _ _ [.pointer (some ⟨p9, 0, none⟩)] (kf12 _ _) rfl ((wleft_any (show Ms w w36 [wk p9 (k) L (t + 1) m32, blk (w31.heap.size) (kc (Y)) 23, blk (w13.heap.size) (kc (X)) 23, blk (w.heap.size) (kc (s)) 23] from (hM.up 1 rfl)) (d) ⟨by have := hd.out; omega⟩).mono ?_))
  rintro e w37 ⟨rfl, t_⟩
  refine ⟨_, rfl, ?_⟩
  replace hM := hM.call t_
  clear t_
  (try simp only [Act.put, List.setIfInBounds_toArray, List.set_cons_zero, List.set_cons_succ])
  refine wl_give rfl (g_move _ (.int .i64 (((k : Nat) : Int))) rfl ?_)
  (try simp only [Act.put, List.setIfInBounds_toArray, List.set_cons_zero, List.set_cons_succ])
  refine wl_give rfl (g_move _ (.int .i64 (((t : Nat) : Int))) rfl ?_)
  (try simp only [Act.put, List.setIfInBounds_toArray, List.set_cons_zero, List.set_cons_succ])
  refine wl_give rfl (g_isub 3 _ _ .i64 (((k : Nat) : Int)) (((t : Nat) : Int)) (d) rfl rfl ed.out ?_)
  (try simp only [Act.put, List.setIfInBounds_toArray, List.set_cons_zero, List.set_cons_succ])
  refine wl_give rfl (g_ieq 3 _ _ .i64 (d) (d) true rfl rfl (decide_eq_true rfl) ?_)
  (try simp only [Act.put, List.setIfInBounds_toArray, List.set_cons_zero, List.set_cons_succ])
  refine wl_give rfl (g_pickt _ _ _ (.bool true) rfl rfl ?_)
  (try simp only [Act.put, List.setIfInBounds_toArray, List.set_cons_zero, List.set_cons_succ])
  refine wl_give rfl (g_move _ (.bool true) rfl ?_)
  (try simp only [Act.put, List.setIfInBounds_toArray, List.set_cons_zero, List.set_cons_succ])
  refine wl_give rfl (g_move _ (.pointer (some ⟨p9, 0, none⟩)) rfl ?_)
  (try simp only [Act.put, List.setIfInBounds_toArray, List.set_cons_zero, List.set_cons_succ])
  refine wl_give rfl (g_call 13 _ _ [.pointer (some ⟨p9, 0, none⟩)] (kf13 _ _) rfl ((wminds_any (show Ms w w37 [wk p9 (k) L (t + 1) m32, blk (w31.heap.size) (kc (Y)) 23, blk (w13.heap.size) (kc (X)) 23, blk (w.heap.size) (kc (s)) 23] from (hM.up 1 rfl))).mono ?_))
  rintro e w38 ⟨rfl, t_⟩
  refine ⟨_, rfl, ?_⟩
  replace hM := hM.call t_
  clear t_
  (try simp only [Act.put, List.setIfInBounds_toArray, List.set_cons_zero, List.set_cons_succ])
  refine wl_give rfl (g_move _ (.int .i64 (((k : Nat) : Int))) rfl ?_)
  (try simp only [Act.put, List.setIfInBounds_toArray, List.set_cons_zero, List.set_cons_succ])
  refine wl_give rfl (g_call 14 _ _ [.int .i64 (((k : Nat) : Int))] (kf14 _ _) rfl ((most_any k h1 h2 w38).mono ?_))
  rintro e w39 ⟨rfl, t_⟩
  refine ⟨_, rfl, ?_⟩
  replace hM := hM.call t_
  clear t_
  (try simp only [Act.put, List.setIfInBounds_toArray, List.set_cons_zero, List.set_cons_succ])
  refine wl_give rfl (g_ileq 3 _ _ .i64 (((m32 : Nat) : Int)) (((mo k : Nat) : Int)) true rfl rfl (decide_eq_true (by have := wk_few (show Ms w _ [wk p9 (k) L (t + 1) m32, blk (w31.heap.size) (kc (Y)) 23, blk (w13.heap.size) (kc (X)) 23, blk (w.heap.size) (kc (s)) 23] from (hM.up 1 rfl)); omega)) ?_)
  (try simp only [Act.put, List.setIfInBounds_toArray, List.set_cons_zero, List.set_cons_succ])
  refine wl_give rfl (g_pickt _ _ _ (.bool true) rfl rfl ?_)
  (try simp only [Act.put, List.setIfInBounds_toArray, List.set_cons_zero, List.set_cons_succ])
  refine wl_give rfl (g_assign _ (.bool true) rfl ?_)
  (try simp only [Act.put, List.setIfInBounds_toArray, List.set_cons_zero, List.set_cons_succ])
  refine wl_nil ?_
  refine hK35 _ _ ?_
  (try clear hK35 K35)
  refine wp_ret ?_
  go_ret
  exact ⟨rfl, hM.below⟩
theorem walk (l0 : List UInt8) (h0 : l0.length = 32) (n : Int) (hn : (Lit.int .u16 n).wf = true) (u : Int) (hu : (Lit.int .u16 u).wf = true) (w : World) (hT : Tabs w) : Calls Tryd.prog 5 #[.agg (bc l0).toArray, .int .u16 n, .int .u16 u] w fun e w' => e = .returned (.bool true) ∧ Below w.heap.size w w' := by
  obtain ⟨F, eF, hF⟩ := rem_nat n 1024 (by decide) (in_u16 hn).1
  obtain ⟨G, eG, hG⟩ := rem_nat u (F + 1) (by omega) (in_u16 hu).1
  have bu := in_u16 hu
  have g : ∀ x : Int, -9223372036854775808 ≤ x → x ≤ 9223372036854775807 → Shut (IntKind.i64.wrap x = x) := fun x a b => ⟨wrap_id x a b⟩
  obtain ⟨L, hL⟩ : ∃ L, tg ⟨l0, h0⟩ chainW = L := ⟨_, rfl⟩
  exact walk_a ⟨l0, h0⟩ n u w hT F G (((F + 1 : Nat) : Int) - ((G + 1 : Nat) : Int)) (F + 1) (G + 1) L _ _ ⟨eF⟩ (g _ (by omega) (by omega)) (g _ (by omega) (by omega)) (g _ (by omega) (by omega)) ⟨eG⟩ ⟨by rw [(g _ (by omega) (by omega)).out]; omega⟩ (g _ (by omega) (by omega)) (g _ (by omega) (by omega)) ⟨rfl⟩ (by omega) (by omega) ⟨hL⟩ ⟨nx_ok _ _ _ (by omega)⟩ ⟨sk_ok (F + 1) 1 (G + 1) (by omega) (by omega)⟩ ⟨nx_ok _ _ _ (by omega)⟩
end Go.Proofs.YtdfpnicpcndkjaaDoor.pebbleFew
