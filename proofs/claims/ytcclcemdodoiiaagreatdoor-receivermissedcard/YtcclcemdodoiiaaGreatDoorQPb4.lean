/- What the program's and the reference's Next and Skip answer, and what they do to a walker in memory. -/
import Derived.Test.YtcclcemdodoiiaaGreatDoorQPb3
import Derived.WalkKit
import Derived.WalkSpells
import Derived.WalkLawsBesides
namespace Go.Proofs.YtcclcemdodoiiaaGreatDoor
set_option maxRecDepth 10000
open Go Go.RowKit
set_option linter.unusedVariables false
set_option linter.unusedSimpArgs false

section
variable {w0 w : World} {R : List HP} {p n a m : Nat} {L : Ky}
theorem wk_c0 (hM : Ms w0 w (wk p n L a m :: R)) : w.cell? ⟨p, 0, none⟩ = some (.int .i64 ((a : Nat) : Int)) := by
  obtain ⟨ao, cap, hb⟩ := wk_blk hM
  exact hb.cell 0 _ rfl
end
set_option maxHeartbeats 4000000 in
theorem next_end {w0 w : World} {R : List HP} {p n a m : Nat} {L : Ky} (hM : Ms w0 w (wk p n L a m :: R)) (ha : a = n + 1) : Calls Tryz.prog 73 #[.pointer (some ⟨p, 0, none⟩)] w fun e w' => ∃ m', e = .returned (.tuple #[.agg (kc zk).toArray, .int .i64 10]) ∧ Ms w0 w' (wk p n L a m' :: R) := by
  have hd : Shut ((n : Int) + 1 - a = 0) := ⟨by omega⟩
  go_enter Tryz.func73, Tryz.ntmps73
  refine wp_seq_k (fun K1 hK1 => ?_)
  refine wl_region ?_
  refine wl_give rfl (g_alloc 23 (kc (zk)) zeroK ?_)
  intro w2 t_ b_
  replace hM : Ms w0 w2 (blk (w.heap.size) (kc (zk)) 23 :: wk p n L a m :: R) := hM.new t_ b_
  clear t_ b_
  (try simp only [Act.put, st_a, st_0, st_s])
  refine wl_give rfl (g_assign _ (.int .i64 (0)) rfl ?_)
  (try simp only [Act.put, st_a, st_0, st_s])
  refine wl_nil ?_
  refine hK1 _ _ ?_
  (try clear hK1 K1)
  refine wp_seq_k (fun K3 hK3 => ?_)
  refine wp_seq_k (fun K4 hK4 => ?_)
  refine wl_region ?_
  refine wl_give rfl (g_move _ (.pointer (some ⟨p, 0, none⟩)) rfl ?_)
  (try simp only [Act.put, st_a, st_0, st_s])
  refine wl_give rfl (g_call 98 _ _ [.pointer (some ⟨p, 0, none⟩)] (kf98 _ _) rfl ((wleft_any (show Ms w0 w2 (wk p n L a m :: blk (w.heap.size) (kc (zk)) 23 :: R) from (hM.up 1 rfl)) 0 hd).mono ?_))
  rintro e w5 ⟨rfl, t_⟩
  refine ⟨_, rfl, ?_⟩
  replace hM := hM.call t_
  clear t_
  (try simp only [Act.put, st_a, st_0, st_s])
  refine wl_give rfl (g_ieq 3 _ _ .i64 (0) (0) true rfl rfl (by decide) ?_)
  (try simp only [Act.put, st_a, st_0, st_s])
  refine wl_nil ?_
  refine hK4 _ _ ?_
  (try clear hK4 K4)
  refine wp_cond_true rfl ?_
  refine wp_seq_k (fun K6 hK6 => ?_)
  refine wl_region ?_
  refine wl_give rfl (g_bldK0 ?_)
  (try simp only [Act.put, st_a, st_0, st_s])
  refine wl_give rfl (g_store_all 23 _ _ (w.heap.size) (kc (zk)) _ 23 rfl rfl (hM.get 0 rfl) (szK _) (kk_len _ _) (one_kc _) ?_)
  intro w7 t_ b_
  replace hM : Ms w0 w7 (blk (w.heap.size) (kc (zk)) 23 :: wk p n L a m :: R) := hM.put 0 rfl t_ b_
  clear t_ b_
  (try simp only [Act.put, st_a, st_0, st_s])
  refine wl_give rfl (g_assign _ (.int .i64 (10)) rfl ?_)
  (try simp only [Act.put, st_a, st_0, st_s])
  refine wl_nil ?_
  refine hK6 _ _ ?_
  (try clear hK6 K6)
  refine wp_ret ?_
  (try simp only [Exit.inBlock, Exit.then])
  exact bodyPost_ret (results_blk_tmp rfl _ (kc (zk)) (.int .i64 (10)) _ rfl rfl (hM.get 0 rfl) Tryz.underlying23 rfl (szK _)) rfl ⟨m, rfl, (hM.erase 0)⟩
set_option maxHeartbeats 4000000 in
theorem next_go {w0 w : World} {R : List HP} {p n a m : Nat} {L : Ky} (hM : Ms w0 w (wk p n L a m :: R)) (hT : Tabs w0) (ha : a ≤ n) : Calls Tryz.prog 73 #[.pointer (some ⟨p, 0, none⟩)] w fun e w' => ∃ m', e = .returned (.tuple #[.agg (kc (wl (n - a) L)).toArray, .int .i64 0]) ∧ Ms w0 w' (wk p n L (a + 1) m' :: R) := by
  obtain ⟨h1, h2, _⟩ := wk_few hM
  obtain ⟨d, hd⟩ : ∃ d, Shut ((n : Int) + 1 - a = d) := ⟨_, ⟨rfl⟩⟩
  have hd0 : Shut (¬ d = 0) := ⟨by have := hd.out; omega⟩
  have he : Shut (IntKind.i64.wrap (((a : Nat) : Int) + 1) = ((a + 1 : Nat) : Int)) := ⟨by rw [wrap_id _ (by omega) (by omega)]; omega⟩
  go_enter Tryz.func73, Tryz.ntmps73
  refine wp_seq_k (fun K1 hK1 => ?_)
  refine wl_region ?_
  refine wl_give rfl (g_alloc 23 (kc (zk)) zeroK ?_)
  intro w2 t_ b_
  replace hM : Ms w0 w2 (blk (w.heap.size) (kc (zk)) 23 :: wk p n L a m :: R) := hM.new t_ b_
  clear t_ b_
  (try simp only [Act.put, st_a, st_0, st_s])
  refine wl_give rfl (g_assign _ (.int .i64 (0)) rfl ?_)
  (try simp only [Act.put, st_a, st_0, st_s])
  refine wl_nil ?_
  refine hK1 _ _ ?_
  (try clear hK1 K1)
  refine wp_seq_k (fun K3 hK3 => ?_)
  refine wp_seq_k (fun K4 hK4 => ?_)
  refine wl_region ?_
  refine wl_give rfl (g_move _ (.pointer (some ⟨p, 0, none⟩)) rfl ?_)
  (try simp only [Act.put, st_a, st_0, st_s])
  refine wl_give rfl (g_call 98 _ _ [.pointer (some ⟨p, 0, none⟩)] (kf98 _ _) rfl ((wleft_any (show Ms w0 w2 (wk p n L a m :: blk (w.heap.size) (kc (zk)) 23 :: R) from (hM.up 1 rfl)) d hd).mono ?_))
  rintro e w5 ⟨rfl, t_⟩
  refine ⟨_, rfl, ?_⟩
  replace hM := hM.call t_
  clear t_
  (try simp only [Act.put, st_a, st_0, st_s])
  refine wl_give rfl (g_ieq 3 _ _ .i64 (d) (0) false rfl rfl (decide_eq_false hd0.out) ?_)
  (try simp only [Act.put, st_a, st_0, st_s])
  refine wl_nil ?_
  refine hK4 _ _ ?_
  (try clear hK4 K4)
  refine wp_cond_false rfl ?_
  refine wp_skip ?_
  refine hK3 _ _ ?_
  (try clear hK3 K3)
  refine wp_seq_k (fun K6 hK6 => ?_)
  refine wl_region ?_
  refine wl_give rfl (g_move _ (.pointer (some ⟨p, 0, none⟩)) rfl ?_)
  (try simp only [Act.put, st_a, st_0, st_s])
  refine wl_give rfl (g_call 99 _ _ [.pointer (some ⟨p, 0, none⟩)] (kf99 _ _) rfl ((reach_any (show Ms w0 w5 (wk p n L a m :: blk (w.heap.size) (kc (zk)) 23 :: R) from (hM.up 1 rfl)) hT ha).mono ?_))
  rintro e w7 ⟨m8, rfl, h_⟩
  refine ⟨_, rfl, ?_⟩
  replace hM : Ms w0 w7 (wk p n L a m8 :: blk (w.heap.size) (kc (zk)) 23 :: R) := h_
  clear h_
  (try simp only [Act.put, st_a, st_0, st_s])
  refine wl_give rfl (g_fldMk _ (((a : Nat) : Int)) (wl (n - a) L) rfl ?_)
  (try simp only [Act.put, st_a, st_0, st_s])
  refine wl_give rfl (g_alloc 23 (kc (zk)) zeroK ?_)
  intro w9 t_ b_
  replace hM : Ms w0 w9 (blk (w7.heap.size) (kc (zk)) 23 :: wk p n L a m8 :: blk (w.heap.size) (kc (zk)) 23 :: R) := hM.new t_ b_
  clear t_ b_
  (try simp only [Act.put, st_a, st_0, st_s])
  refine wl_give rfl (g_store_all 23 _ _ (w7.heap.size) (kc (wl (n - a) L)) _ 23 rfl rfl (hM.get 0 rfl) (szK _) (kk_len _ _) (one_kc _) ?_)
  intro w10 t_ b_
  replace hM : Ms w0 w10 (blk (w7.heap.size) (kc (wl (n - a) L)) 23 :: wk p n L a m8 :: blk (w.heap.size) (kc (zk)) 23 :: R) := hM.put 0 rfl t_ b_
  clear t_ b_
  (try simp only [Act.put, st_a, st_0, st_s])
  refine wl_nil ?_
  refine hK6 _ _ ?_
  (try clear hK6 K6)
  refine wp_seq_k (fun K11 hK11 => ?_)
  refine wl_region ?_
  refine wl_give rfl (g_move _ (.pointer (some ⟨p, 0, none⟩)) rfl ?_)
  (try simp only [Act.put, st_a, st_0, st_s])
  refine wl_give rfl (g_move _ (.pointer (some ⟨p, 0, none⟩)) rfl ?_)
  (try simp only [Act.put, st_a, st_0, st_s])
  refine wl_give rfl (g_nil _ ⟨p, 0, none⟩ rfl ?_)
  (try simp only [Act.put, st_a, st_0, st_s])
  refine wl_give rfl (g_fa 145 _ p 0 0 0 rfl (faW0 _ _) ?_)
  (try simp only [Act.put, st_a, st_0, st_s])
  refine wl_give rfl (g_ld1 3 _ p 0 _ rfl (ld3 _ _ _ _ (wk_c0 (show Ms w0 _ (wk p n L a m8 :: blk (w7.heap.size) (kc (wl (n - a) L)) 23 :: blk (w.heap.size) (kc (zk)) 23 :: R) from (hM.up 1 rfl)))) ?_)
  (try simp only [Act.put, st_a, st_0, st_s])
  refine wl_give rfl (g_ia 3 _ _ .i64 (((a : Nat) : Int)) (1) (((a + 1 : Nat) : Int)) rfl rfl he.out ?_)
  (try simp only [Act.put, st_a, st_0, st_s])
  refine wl_give rfl (g_call 100 _ _ [.pointer (some ⟨p, 0, none⟩), .int .i64 (((a + 1 : Nat) : Int))] (kf100 _ _) rfl ((pass_any (a + 1) (show Ms w0 w10 (wk p n L a m8 :: blk (w7.heap.size) (kc (wl (n - a) L)) 23 :: blk (w.heap.size) (kc (zk)) 23 :: R) from (hM.up 1 rfl)) (by omega) (by omega)).mono ?_))
  rintro e w12 ⟨m13, rfl, h_⟩
  refine ⟨_, rfl, ?_⟩
  replace hM : Ms w0 w12 (wk p n L (a + 1) m13 :: blk (w7.heap.size) (kc (wl (n - a) L)) 23 :: blk (w.heap.size) (kc (zk)) 23 :: R) := h_
  clear h_
  (try simp only [Act.put, st_a, st_0, st_s])
  refine wl_nil ?_
  refine hK11 _ _ ?_
  (try clear hK11 K11)
  refine wp_seq_k (fun K14 hK14 => ?_)
  refine wl_region ?_
  refine wl_give rfl (g_load_all 23 _ (w7.heap.size) (kc (wl (n - a) L)) 23 _ rfl (hM.get 1 rfl) Tryz.underlying23 rfl (szK _) ?_)
  (try simp only [Act.put, st_a, st_0, st_s])
  refine wl_give rfl (g_store_all 23 _ _ (w.heap.size) (kc (wl (n - a) L)) _ 23 rfl rfl (hM.get 2 rfl) (szK _) (kk_len _ _) (one_kc _) ?_)
  intro w15 t_ b_
  replace hM : Ms w0 w15 (wk p n L (a + 1) m13 :: blk (w7.heap.size) (kc (wl (n - a) L)) 23 :: blk (w.heap.size) (kc (wl (n - a) L)) 23 :: R) := hM.put 2 rfl t_ b_
  clear t_ b_
  (try simp only [Act.put, st_a, st_0, st_s])
  refine wl_give rfl (g_assign _ (.int .i64 (0)) rfl ?_)
  (try simp only [Act.put, st_a, st_0, st_s])
  refine wl_nil ?_
  refine hK14 _ _ ?_
  (try clear hK14 K14)
  refine wp_ret ?_
  (try simp only [Exit.inBlock, Exit.then])
  exact bodyPost_ret (results_blk_tmp rfl _ (kc (wl (n - a) L)) (.int .i64 (0)) _ rfl rfl (hM.get 2 rfl) Tryz.underlying23 rfl (szK _)) rfl ⟨m13, rfl, ((hM.erase 1).erase 1)⟩
theorem pnext_any {w0 w : World} {R : List HP} {p n a m : Nat} {L : Ky} (hM : Ms w0 w (wk p n L a m :: R)) (hT : Tabs w0) (K : Ky) (E : Int) (a' : Nat) (h : Shut (nx n L a = ((K, E), a'))) : Calls Tryz.prog 73 #[.pointer (some ⟨p, 0, none⟩)] w fun e w' => ∃ m', e = .returned (.tuple #[.agg (kc K).toArray, .int .i64 E]) ∧ Ms w0 w' (wk p n L a' m' :: R) := by
  have h := h.out
  obtain ⟨h1, h2, h3, _⟩ := wk_few hM
  unfold nx at h
  by_cases ha : a ≤ n
  · rw [if_pos ha] at h; cases h; exact next_go hM hT ha
  · rw [if_neg ha] at h; cases h; exact next_end hM (by omega)
end Go.Proofs.YtcclcemdodoiiaaGreatDoor
