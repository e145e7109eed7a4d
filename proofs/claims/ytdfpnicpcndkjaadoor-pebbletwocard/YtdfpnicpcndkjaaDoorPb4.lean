/- What the program's and the reference's Next and Skip answer, and what they do to a walker in memory. -/
import Derived.Test.YtdfpnicpcndkjaaDoorPb3
import Derived.WalkKit
import Derived.WalkSpells
import Derived.WalkLawsBesides
namespace Go.Proofs.YtdfpnicpcndkjaaDoor
set_option maxRecDepth 10000
open Go Go.RowKit
set_option linter.unusedVariables false
set_option linter.unusedSimpArgs false

theorem ky_ok (s : Ky) (n i : Int) (h1 : 1 ≤ n) (h2 : n ≤ 1024) (h3 : 0 ≤ i) (h4 : i ≤ n) : ky s n i = (wl (n - i).toNat (tg s chainW), 0) := by
  unfold ky tl
  rw [if_neg (by omega), if_neg (by omega), show min (n - i) 4096 = n - i by omega]
theorem ky_nat (s L : Ky) (n a : Nat) (h1 : 1 ≤ n) (h2 : n ≤ 1024) (h4 : a ≤ n) (hL : tg s chainW = L) : ky s n a = (wl (n - a) L, 0) := by
  rw [ky_ok s n a (by omega) (by omega) (by omega) (by omega), hL]; congr 2; omega
section
variable {w0 w : World} {R : List HP} {p n a m : Nat} {L : Ky}
theorem wk_c0 (hM : Ms w0 w (wk p n L a m :: R)) : w.cell? ⟨p, 0, none⟩ = some (.int .i64 ((a : Nat) : Int)) := by
  obtain ⟨ao, cap, hb⟩ := wk_blk hM
  exact hb.cell 0 _ rfl
theorem wk_c1 (hM : Ms w0 w (wk p n L a m :: R)) : w.cell? ⟨p, 1, none⟩ = some (.int .i64 ((n : Int) + 1)) := by
  obtain ⟨ao, cap, hb⟩ := wk_blk hM
  exact hb.cell 1 _ rfl
end
set_option maxHeartbeats 4000000 in
theorem next_end {w0 w : World} {R : List HP} {p n a m : Nat} {L : Ky} (hM : Ms w0 w (wk p n L a m :: R)) (ha : a = n + 1) : Calls Tryd.prog 15 #[.pointer (some ⟨p, 0, none⟩)] w fun e w' => ∃ m', e = .returned (.tuple #[.agg (kc zk).toArray, .int .i64 10]) ∧ Ms w0 w' (wk p n L a m' :: R) := by
  have hd : Shut ((n : Int) + 1 - a = 0) := ⟨by omega⟩
  go_enter Tryd.func15, Tryd.ntmps15
  refine wp_seq_k (fun K1 hK1 => ?_)
  refine wl_region ?_
  refine wl_give rfl (g_alloc 23 (kc (zk)) zeroK ?_)
  intro w2 t_ b_
  replace hM : Ms w0 w2 (blk (w.heap.size) (kc (zk)) 23 :: wk p n L a m :: R) := hM.new t_ b_
  clear t_ b_
  (try simp only [Act.put, List.setIfInBounds_toArray, List.set_cons_zero, List.set_cons_succ])
  refine wl_give rfl (g_assign _ (.int .i64 (0)) rfl ?_)
  (try simp only [Act.put, List.setIfInBounds_toArray, List.set_cons_zero, List.set_cons_succ])
  refine wl_nil ?_
  refine hK1 _ _ ?_
  (try clear hK1 K1)
  refine wp_seq_k (fun K3 hK3 => ?_)
  refine wp_seq_k (fun K4 hK4 => ?_)
  refine wl_region ?_
  refine wl_give rfl (g_move _ (.pointer (some ⟨p, 0, none⟩)) rfl ?_)
  (try simp only [Act.put, List.setIfInBounds_toArray, List.set_cons_zero, List.set_cons_succ])
  refine wl_give rfl (g_call 12 _ _ [.pointer (some ⟨p, 0, none⟩)] (kf12 _ _) rfl ((wleft_any (show Ms w0 w2 (wk p n L a m :: blk (w.heap.size) (kc (zk)) 23 :: R) from (hM.up 1 rfl)) 0 hd).mono ?_))
  rintro e w5 ⟨rfl, t_⟩
  refine ⟨_, rfl, ?_⟩
  replace hM := hM.call t_
  clear t_
  (try simp only [Act.put, List.setIfInBounds_toArray, List.set_cons_zero, List.set_cons_succ])
  refine wl_give rfl (g_ieq 3 _ _ .i64 (0) (0) true rfl rfl (by decide) ?_)
  (try simp only [Act.put, List.setIfInBounds_toArray, List.set_cons_zero, List.set_cons_succ])
  refine wl_nil ?_
  refine hK4 _ _ ?_
  (try clear hK4 K4)
  refine wp_cond_true rfl ?_
  refine wp_seq_k (fun K6 hK6 => ?_)
  refine wl_region ?_
  refine wl_give rfl (g_bldK0 ?_)
  (try simp only [Act.put, List.setIfInBounds_toArray, List.set_cons_zero, List.set_cons_succ])
  refine wl_give rfl (g_store_all 23 _ _ (w.heap.size) (kc (zk)) _ 23 rfl rfl (hM.get 0 rfl) (szK _) (kk_len _ _) (one_kc _) ?_)
  intro w7 t_ b_
  replace hM : Ms w0 w7 (blk (w.heap.size) (kc (zk)) 23 :: wk p n L a m :: R) := hM.put 0 rfl t_ b_
  clear t_ b_
  (try simp only [Act.put, List.setIfInBounds_toArray, List.set_cons_zero, List.set_cons_succ])
  refine wl_give rfl (g_assign _ (.int .i64 (10)) rfl ?_)
  (try simp only [Act.put, List.setIfInBounds_toArray, List.set_cons_zero, List.set_cons_succ])
  refine wl_nil ?_
  refine hK6 _ _ ?_
  (try clear hK6 K6)
  refine wp_ret ?_
  (try simp only [Exit.inBlock, Exit.then])
  exact bodyPost_ret (results_blk_tmp rfl _ (kc (zk)) (.int .i64 (10)) _ rfl rfl (hM.get 0 rfl) Tryd.underlying23 rfl (szK _)) rfl ⟨m, rfl, (hM.erase 0)⟩
set_option maxHeartbeats 4000000 in
theorem next_go {w0 w : World} {R : List HP} {p n a m : Nat} {L : Ky} (hM : Ms w0 w (wk p n L a m :: R)) (hT : Tabs w0) (ha : a ≤ n) : Calls Tryd.prog 15 #[.pointer (some ⟨p, 0, none⟩)] w fun e w' => ∃ m', e = .returned (.tuple #[.agg (kc (wl (n - a) L)).toArray, .int .i64 0]) ∧ Ms w0 w' (wk p n L (a + 1) m' :: R) := by
  obtain ⟨h1, h2, _⟩ := wk_few hM
  obtain ⟨d, hd⟩ : ∃ d, Shut ((n : Int) + 1 - a = d) := ⟨_, ⟨rfl⟩⟩
  have hd0 : Shut (¬ d = 0) := ⟨by have := hd.out; omega⟩
  have he : Shut (IntKind.i64.wrap (((a : Nat) : Int) + 1) = ((a + 1 : Nat) : Int)) := ⟨by rw [wrap_id _ (by omega) (by omega)]; omega⟩
  go_enter Tryd.func15, Tryd.ntmps15
  refine wp_seq_k (fun K1 hK1 => ?_)
  refine wl_region ?_
  refine wl_give rfl (g_alloc 23 (kc (zk)) zeroK ?_)
  intro w2 t_ b_
  replace hM : Ms w0 w2 (blk (w.heap.size) (kc (zk)) 23 :: wk p n L a m :: R) := hM.new t_ b_
  clear t_ b_
  (try simp only [Act.put, List.setIfInBounds_toArray, List.set_cons_zero, List.set_cons_succ])
  refine wl_give rfl (g_assign _ (.int .i64 (0)) rfl ?_)
  (try simp only [Act.put, List.setIfInBounds_toArray, List.set_cons_zero, List.set_cons_succ])
  refine wl_nil ?_
  refine hK1 _ _ ?_
  (try clear hK1 K1)
  refine wp_seq_k (fun K3 hK3 => ?_)
  refine wp_seq_k (fun K4 hK4 => ?_)
  refine wl_region ?_
  refine wl_give rfl (g_move _ (.pointer (some ⟨p, 0, none⟩)) rfl ?_)
  (try simp only [Act.put, List.setIfInBounds_toArray, List.set_cons_zero, List.set_cons_succ])
  refine wl_give rfl (g_call 12 _ _ [.pointer (some ⟨p, 0, none⟩)] (kf12 _ _) rfl ((wleft_any (show Ms w0 w2 (wk p n L a m :: blk (w.heap.size) (kc (zk)) 23 :: R) from (hM.up 1 rfl)) d hd).mono ?_))
  rintro e w5 ⟨rfl, t_⟩
  refine ⟨_, rfl, ?_⟩
  replace hM := hM.call t_
  clear t_
  (try simp only [Act.put, List.setIfInBounds_toArray, List.set_cons_zero, List.set_cons_succ])
  refine wl_give rfl (g_ieq 3 _ _ .i64 (d) (0) false rfl rfl (decide_eq_false hd0.out) ?_)
  (try simp only [Act.put, List.setIfInBounds_toArray, List.set_cons_zero, List.set_cons_succ])
  refine wl_nil ?_
  refine hK4 _ _ ?_
  (try clear hK4 K4)
  refine wp_cond_false rfl ?_
  refine wp_skip ?_
  refine hK3 _ _ ?_
  (try clear hK3 K3)
  refine wp_seq_k (fun K6 hK6 => ?_)
  refine wl_region ?_
  refine wl_give rfl (g_move _ (.pointer (some ⟨p, 0, none⟩)) rfl ?_)
  (try simp only [Act.put, List.setIfInBounds_toArray, List.set_cons_zero, List.set_cons_succ])
  refine wl_give rfl (g_call 21 _ _ [.pointer (some ⟨p, 0, none⟩)] (kf21 _ _) rfl ((reach_any (show Ms w0 w5 (wk p n L a m :: blk (w.heap.size) (kc (zk)) 23 :: R) from (hM.up 1 rfl)) hT ha).mono ?_))
  rintro e w7 ⟨m8, rfl, h_⟩
  refine ⟨_, rfl, ?_⟩
  replace hM : Ms w0 w7 (wk p n L a m8 :: blk (w.heap.size) (kc (zk)) 23 :: R) := h_
  clear h_
  (try simp only [Act.put, List.setIfInBounds_toArray, List.set_cons_zero, List.set_cons_succ])
  refine wl_give rfl (g_fldMk _ (((a : Nat) : Int)) (wl (n - a) L) rfl ?_)
  (try simp only [Act.put, List.setIfInBounds_toArray, List.set_cons_zero, List.set_cons_succ])
  refine wl_give rfl (g_alloc 23 (kc (zk)) zeroK ?_)
  intro w9 t_ b_
  replace hM : Ms w0 w9 (blk (w7.heap.size) (kc (zk)) 23 :: wk p n L a m8 :: blk (w.heap.size) (kc (zk)) 23 :: R) := hM.new t_ b_
  clear t_ b_
  (try simp only [Act.put, List.setIfInBounds_toArray, List.set_cons_zero, List.set_cons_succ])
  refine wl_give rfl (g_store_all 23 _ _ (w7.heap.size) (kc (wl (n - a) L)) _ 23 rfl rfl (hM.get 0 rfl) (szK _) (kk_len _ _) (one_kc _) ?_)
  intro w10 t_ b_
  replace hM : Ms w0 w10 (blk (w7.heap.size) (kc (wl (n - a) L)) 23 :: wk p n L a m8 :: blk (w.heap.size) (kc (zk)) 23 :: R) := hM.put 0 rfl t_ b_
  clear t_ b_
  (try simp only [Act.put, List.setIfInBounds_toArray, List.set_cons_zero, List.set_cons_succ])
  refine wl_nil ?_
  refine hK6 _ _ ?_
  (try clear hK6 K6)
  refine wp_seq_k (fun K11 hK11 => ?_)
  refine wl_region ?_
  refine wl_give rfl (g_move _ (.pointer (some ⟨p, 0, none⟩)) rfl ?_)
  (try simp only [Act.put, List.setIfInBounds_toArray, List.set_cons_zero, List.set_cons_succ])
  refine wl_give rfl (g_move _ (.pointer (some ⟨p, 0, none⟩)) rfl ?_)
  (try simp only [Act.put, List.setIfInBounds_toArray, List.set_cons_zero, List.set_cons_succ])
  refine wl_give rfl (g_nil _ ⟨p, 0, none⟩ rfl ?_)
  (try simp only [Act.put, List.setIfInBounds_toArray, List.set_cons_zero, List.set_cons_succ])
  refine wl_give rfl (g_fa 53 _ p 0 0 0 rfl (faW0 _ _) ?_)
  (try simp only [Act.put, List.setIfInBounds_toArray, List.set_cons_zero, List.set_cons_succ])
  refine wl_give rfl (g_ld1 3 _ p 0 _ rfl (ld3 _ _ _ _ (wk_c0 (show Ms w0 _ (wk p n L a m8 :: blk (w7.heap.size) (kc (wl (n - a) L)) 23 :: blk (w.heap.size) (kc (zk)) 23 :: R) from (hM.up 1 rfl)))) ?_)
  (try simp only [Act.put, List.setIfInBounds_toArray, List.set_cons_zero, List.set_cons_succ])
  refine wl_give rfl (g_ia 3 _ _ .i64 (((a : Nat) : Int)) (1) (((a + 1 : Nat) : Int)) rfl rfl he.out ?_)
  (try simp only [Act.put, List.setIfInBounds_toArray, List.set_cons_zero, List.set_cons_succ])
  refine wl_give rfl (g_call 22 _ _ [.pointer (some ⟨p, 0, none⟩), .int .i64 (((a + 1 : Nat) : Int))] (kf22 _ _) rfl ((pass_any (a + 1) (show Ms w0 w10 (wk p n L a m8 :: blk (w7.heap.size) (kc (wl (n - a) L)) 23 :: blk (w.heap.size) (kc (zk)) 23 :: R) from (hM.up 1 rfl)) (by omega) (by omega)).mono ?_))
  rintro e w12 ⟨m13, rfl, h_⟩
  refine ⟨_, rfl, ?_⟩
  replace hM : Ms w0 w12 (wk p n L (a + 1) m13 :: blk (w7.heap.size) (kc (wl (n - a) L)) 23 :: blk (w.heap.size) (kc (zk)) 23 :: R) := h_
  clear h_
  (try simp only [Act.put, List.setIfInBounds_toArray, List.set_cons_zero, List.set_cons_succ])
  refine wl_nil ?_
  refine hK11 _ _ ?_
  (try clear hK11 K11)
  refine wp_seq_k (fun K14 hK14 => ?_)
  refine wl_region ?_
  refine wl_give rfl (g_load_all 23 _ (w7.heap.size) (kc (wl (n - a) L)) 23 _ rfl (hM.get 1 rfl) Tryd.underlying23 rfl (szK _) ?_)
  (try simp only [Act.put, List.setIfInBounds_toArray, List.set_cons_zero, List.set_cons_succ])
  refine wl_give rfl (g_store_all 23 _ _ (w.heap.size) (kc (wl (n - a) L)) _ 23 rfl rfl (hM.get 2 rfl) (szK _) (kk_len _ _) (one_kc _) ?_)
  intro w15 t_ b_
  replace hM : Ms w0 w15 (wk p n L (a + 1) m13 :: blk (w7.heap.size) (kc (wl (n - a) L)) 23 :: blk (w.heap.size) (kc (wl (n - a) L)) 23 :: R) := hM.put 2 rfl t_ b_
  clear t_ b_
  (try simp only [Act.put, List.setIfInBounds_toArray, List.set_cons_zero, List.set_cons_succ])
  refine wl_give rfl (g_assign _ (.int .i64 (0)) rfl ?_)
  (try simp only [Act.put, List.setIfInBounds_toArray, List.set_cons_zero, List.set_cons_succ])
  refine wl_nil ?_
  refine hK14 _ _ ?_
  (try clear hK14 K14)
  refine wp_ret ?_
  (try simp only [Exit.inBlock, Exit.then])
  exact bodyPost_ret (results_blk_tmp rfl _ (kc (wl (n - a) L)) (.int .i64 (0)) _ rfl rfl (hM.get 2 rfl) Tryd.underlying23 rfl (szK _)) rfl ⟨m13, rfl, ((hM.erase 1).erase 1)⟩
theorem pnext_any {w0 w : World} {R : List HP} {p n a m : Nat} {L : Ky} (hM : Ms w0 w (wk p n L a m :: R)) (hT : Tabs w0) (K : Ky) (E : Int) (a' : Nat) (h : Shut (nx n L a = ((K, E), a'))) : Calls Tryd.prog 15 #[.pointer (some ⟨p, 0, none⟩)] w fun e w' => ∃ m', e = .returned (.tuple #[.agg (kc K).toArray, .int .i64 E]) ∧ Ms w0 w' (wk p n L a' m' :: R) := by
  have h := h.out
  obtain ⟨h1, h2, h3, _⟩ := wk_few hM
  unfold nx at h
  by_cases ha : a ≤ n
  · rw [if_pos ha] at h; cases h; exact next_go hM hT ha
  · rw [if_neg ha] at h; cases h; exact next_end hM (by omega)
set_option maxHeartbeats 4000000 in
theorem skip_lo {w0 w : World} {R : List HP} {p n a m : Nat} {L : Ky} (hM : Ms w0 w (wk p n L a m :: R)) (t : Int) (h1 : t < ((a : Nat) : Int)) : Calls Tryd.prog 17 #[.pointer (some ⟨p, 0, none⟩), .int .i64 t] w fun e w' => e = .returned (.int .i64 1) ∧ Below w.heap.size w w' := by
  go_enter Tryd.func17, Tryd.ntmps17
  refine wp_seq_k (fun K1 hK1 => ?_)
  refine wl_region ?_
  refine wl_give rfl (g_assign _ (.int .i64 (0)) rfl ?_)
  (try simp only [Act.put, List.setIfInBounds_toArray, List.set_cons_zero, List.set_cons_succ])
  refine wl_nil ?_
  refine hK1 _ _ ?_
  (try clear hK1 K1)
  refine wp_seq_k (fun K2 hK2 => ?_)
  refine wp_seq_k (fun K3 hK3 => ?_)
  refine wl_region ?_
  refine wl_give rfl (g_move _ (.int .i64 (t)) rfl ?_)
  (try simp only [Act.put, List.setIfInBounds_toArray, List.set_cons_zero, List.set_cons_succ])
  refine wl_give rfl (g_move _ (.pointer (some ⟨p, 0, none⟩)) rfl ?_)
  (try simp only [Act.put, List.setIfInBounds_toArray, List.set_cons_zero, List.set_cons_succ])
  refine wl_give rfl (g_nil _ ⟨p, 0, none⟩ rfl ?_)
  (try simp only [Act.put, List.setIfInBounds_toArray, List.set_cons_zero, List.set_cons_succ])
  refine wl_give rfl (g_fa 53 _ p 0 0 0 rfl (faW0 _ _) ?_)
  (try simp only [Act.put, List.setIfInBounds_toArray, List.set_cons_zero, List.set_cons_succ])
  refine wl_give rfl (g_ld1 3 _ p 0 _ rfl (ld3 _ _ _ _ (wk_c0 hM)) ?_)
  (try simp only [Act.put, List.setIfInBounds_toArray, List.set_cons_zero, List.set_cons_succ])
  refine wl_give rfl (g_ilss 3 _ _ .i64 (t) (((a : Nat) : Int)) true rfl rfl (decide_eq_true h1) ?_)
  (try simp only [Act.put, List.setIfInBounds_toArray, List.set_cons_zero, List.set_cons_succ])
  refine wl_give rfl (g_move _ (.bool true) rfl ?_)
  (try simp only [Act.put, List.setIfInBounds_toArray, List.set_cons_zero, List.set_cons_succ])
  refine wl_skip rfl ?_
  (try simp only [Act.put, List.setIfInBounds_toArray, List.set_cons_zero, List.set_cons_succ])
  refine wl_skip rfl ?_
  (try simp only [Act.put, List.setIfInBounds_toArray, List.set_cons_zero, List.set_cons_succ])
  refine wl_skip rfl ?_
  (try simp only [Act.put, List.setIfInBounds_toArray, List.set_cons_zero, List.set_cons_succ])
  refine wl_skip rfl ?_
  (try simp only [Act.put, List.setIfInBounds_toArray, List.set_cons_zero, List.set_cons_succ])
  refine wl_skip rfl ?_
  (try simp only [Act.put, List.setIfInBounds_toArray, List.set_cons_zero, List.set_cons_succ])
  refine wl_skip rfl ?_
  (try simp only [Act.put, List.setIfInBounds_toArray, List.set_cons_zero, List.set_cons_succ])
  refine wl_give rfl (g_pickt _ _ _ (.bool true) rfl rfl ?_)
  (try simp only [Act.put, List.setIfInBounds_toArray, List.set_cons_zero, List.set_cons_succ])
  refine wl_nil ?_
  refine hK3 _ _ ?_
  (try clear hK3 K3)
  refine wp_cond_true rfl ?_
  refine wp_seq_k (fun K4 hK4 => ?_)
  refine wl_region ?_
  refine wl_give rfl (g_assign _ (.int .i64 (1)) rfl ?_)
  (try simp only [Act.put, List.setIfInBounds_toArray, List.set_cons_zero, List.set_cons_succ])
  refine wl_nil ?_
  refine hK4 _ _ ?_
  (try clear hK4 K4)
  refine wp_ret ?_
  go_ret
  exact ⟨rfl, Below.refl _ _⟩
set_option maxHeartbeats 4000000 in
theorem skip_hi {w0 w : World} {R : List HP} {p n a m : Nat} {L : Ky} (hM : Ms w0 w (wk p n L a m :: R)) (t : Int) (h1 : ¬ t < ((a : Nat) : Int)) (h2 : (n : Int) + 1 ≤ t) : Calls Tryd.prog 17 #[.pointer (some ⟨p, 0, none⟩), .int .i64 t] w fun e w' => e = .returned (.int .i64 1) ∧ Below w.heap.size w w' := by
  go_enter Tryd.func17, Tryd.ntmps17
  refine wp_seq_k (fun K1 hK1 => ?_)
  refine wl_region ?_
  refine wl_give rfl (g_assign _ (.int .i64 (0)) rfl ?_)
  (try simp only [Act.put, List.setIfInBounds_toArray, List.set_cons_zero, List.set_cons_succ])
  refine wl_nil ?_
  refine hK1 _ _ ?_
  (try clear hK1 K1)
  refine wp_seq_k (fun K2 hK2 => ?_)
  refine wp_seq_k (fun K3 hK3 => ?_)
  refine wl_region ?_
  refine wl_give rfl (g_move _ (.int .i64 (t)) rfl ?_)
  (try simp only [Act.put, List.setIfInBounds_toArray, List.set_cons_zero, List.set_cons_succ])
  refine wl_give rfl (g_move _ (.pointer (some ⟨p, 0, none⟩)) rfl ?_)
  (try simp only [Act.put, List.setIfInBounds_toArray, List.set_cons_zero, List.set_cons_succ])
  refine wl_give rfl (g_nil _ ⟨p, 0, none⟩ rfl ?_)
  (try simp only [Act.put, List.setIfInBounds_toArray, List.set_cons_zero, List.set_cons_succ])
  refine wl_give rfl (g_fa 53 _ p 0 0 0 rfl (faW0 _ _) ?_)
  (try simp only [Act.put, List.setIfInBounds_toArray, List.set_cons_zero, List.set_cons_succ])
  refine wl_give rfl (g_ld1 3 _ p 0 _ rfl (ld3 _ _ _ _ (wk_c0 hM)) ?_)
  (try simp only [Act.put, List.setIfInBounds_toArray, List.set_cons_zero, List.set_cons_succ])
  refine wl_give rfl (g_ilss 3 _ _ .i64 (t) (((a : Nat) : Int)) false rfl rfl (decide_eq_false h1) ?_)
  (try simp only [Act.put, List.setIfInBounds_toArray, List.set_cons_zero, List.set_cons_succ])
  refine wl_give rfl (g_move _ (.bool false) rfl ?_)
  (try simp only [Act.put, List.setIfInBounds_toArray, List.set_cons_zero, List.set_cons_succ])
  refine wl_give rfl (g_move _ (.int .i64 (t)) rfl ?_)
  (try simp only [Act.put, List.setIfInBounds_toArray, List.set_cons_zero, List.set_cons_succ])
  refine wl_give rfl (g_move _ (.pointer (some ⟨p, 0, none⟩)) rfl ?_)
  (try simp only [Act.put, List.setIfInBounds_toArray, List.set_cons_zero, List.set_cons_succ])
  refine wl_give rfl (g_nil _ ⟨p, 0, none⟩ rfl ?_)
  (try simp only [Act.put, List.setIfInBounds_toArray, List.set_cons_zero, List.set_cons_succ])
  refine wl_give rfl (g_fa 53 _ p 0 1 1 rfl (faW1 _ _) ?_)
  (try simp only [Act.put, List.setIfInBounds_toArray, List.set_cons_zero, List.set_cons_succ])
  refine wl_give rfl (g_ld1 3 _ p 1 _ rfl (ld3 _ _ _ _ (wk_c1 hM)) ?_)
  (try simp only [Act.put, List.setIfInBounds_toArray, List.set_cons_zero, List.set_cons_succ])
  refine wl_give rfl (g_igeq 3 _ _ .i64 (t) ((n : Int) + 1) true rfl rfl (decide_eq_true h2) ?_)
  (try simp only [Act.put, List.setIfInBounds_toArray, List.set_cons_zero, List.set_cons_succ])
  refine wl_give rfl (g_pickf _ _ _ (.bool true) rfl rfl ?_)
  (try simp only [Act.put, List.setIfInBounds_toArray, List.set_cons_zero, List.set_cons_succ])
  refine wl_nil ?_
  refine hK3 _ _ ?_
  (try clear hK3 K3)
  refine wp_cond_true rfl ?_
  refine wp_seq_k (fun K4 hK4 => ?_)
  refine wl_region ?_
  refine wl_give rfl (g_assign _ (.int .i64 (1)) rfl ?_)
  (try simp only [Act.put, List.setIfInBounds_toArray, List.set_cons_zero, List.set_cons_succ])
  refine wl_nil ?_
  refine hK4 _ _ ?_
  (try clear hK4 K4)
  refine wp_ret ?_
  go_ret
  exact ⟨rfl, Below.refl _ _⟩
set_option maxHeartbeats 4000000 in
theorem skip_go {w0 w : World} {R : List HP} {p n a m : Nat} {L : Ky} (hM : Ms w0 w (wk p n L a m :: R)) (t : Nat) (h1 : ¬ ((t : Nat) : Int) < ((a : Nat) : Int)) (h2 : ¬ (n : Int) + 1 ≤ ((t : Nat) : Int)) : Calls Tryd.prog 17 #[.pointer (some ⟨p, 0, none⟩), .int .i64 ((t : Nat) : Int)] w fun e w' => ∃ m', e = .returned (.int .i64 0) ∧ Ms w0 w' (wk p n L t m' :: R) := by
  go_enter Tryd.func17, Tryd.ntmps17
  refine wp_seq_k (fun K1 hK1 => ?_)
  refine wl_region ?_
  refine wl_give rfl (g_assign _ (.int .i64 (0)) rfl ?_)
  (try simp only [Act.put, List.setIfInBounds_toArray, List.set_cons_zero, List.set_cons_succ])
  refine wl_nil ?_
  refine hK1 _ _ ?_
  (try clear hK1 K1)
  refine wp_seq_k (fun K2 hK2 => ?_)
  refine wp_seq_k (fun K3 hK3 => ?_)
  refine wl_region ?_
  refine wl_give rfl (g_move _ (.int .i64 (((t : Nat) : Int))) rfl ?_)
  (try simp only [Act.put, List.setIfInBounds_toArray, List.set_cons_zero, List.set_cons_succ])
  refine wl_give rfl (g_move _ (.pointer (some ⟨p, 0, none⟩)) rfl ?_)
  (try simp only [Act.put, List.setIfInBounds_toArray, List.set_cons_zero, List.set_cons_succ])
  refine wl_give rfl (g_nil _ ⟨p, 0, none⟩ rfl ?_)
  (try simp only [Act.put, List.setIfInBounds_toArray, List.set_cons_zero, List.set_cons_succ])
  refine wl_give rfl (g_fa 53 _ p 0 0 0 rfl (faW0 _ _) ?_)
  (try simp only [Act.put, List.setIfInBounds_toArray, List.set_cons_zero, List.set_cons_succ])
  refine wl_give rfl (g_ld1 3 _ p 0 _ rfl (ld3 _ _ _ _ (wk_c0 hM)) ?_)
  (try simp only [Act.put, List.setIfInBounds_toArray, List.set_cons_zero, List.set_cons_succ])
  refine wl_give rfl (g_ilss 3 _ _ .i64 (((t : Nat) : Int)) (((a : Nat) : Int)) false rfl rfl (decide_eq_false h1) ?_)
  (try simp only [Act.put, List.setIfInBounds_toArray, List.set_cons_zero, List.set_cons_succ])
  refine wl_give rfl (g_move _ (.bool false) rfl ?_)
  (try simp only [Act.put, List.setIfInBounds_toArray, List.set_cons_zero, List.set_cons_succ])
  refine wl_give rfl (g_move _ (.int .i64 (((t : Nat) : Int))) rfl ?_)
  (try simp only [Act.put, List.setIfInBounds_toArray, List.set_cons_zero, List.set_cons_succ])
  refine wl_give rfl (g_move _ (.pointer (some ⟨p, 0, none⟩)) rfl ?_)
  (try simp only [Act.put, List.setIfInBounds_toArray, List.set_cons_zero, List.set_cons_succ])
  refine wl_give rfl (g_nil _ ⟨p, 0, none⟩ rfl ?_)
  (try simp only [Act.put, List.setIfInBounds_toArray, List.set_cons_zero, List.set_cons_succ])
  refine wl_give rfl (g_fa 53 _ p 0 1 1 rfl (faW1 _ _) ?_)
  (try simp only [Act.put, List.setIfInBounds_toArray, List.set_cons_zero, List.set_cons_succ])
  refine wl_give rfl (g_ld1 3 _ p 1 _ rfl (ld3 _ _ _ _ (wk_c1 hM)) ?_)
  (try simp only [Act.put, List.setIfInBounds_toArray, List.set_cons_zero, List.set_cons_succ])
  refine wl_give rfl (g_igeq 3 _ _ .i64 (((t : Nat) : Int)) ((n : Int) + 1) false rfl rfl (decide_eq_false h2) ?_)
  (try simp only [Act.put, List.setIfInBounds_toArray, List.set_cons_zero, List.set_cons_succ])
  refine wl_give rfl (g_pickf _ _ _ (.bool false) rfl rfl ?_)
  (try simp only [Act.put, List.setIfInBounds_toArray, List.set_cons_zero, List.set_cons_succ])
  refine wl_nil ?_
  refine hK3 _ _ ?_
  (try clear hK3 K3)
  refine wp_cond_false rfl ?_
  refine wp_skip ?_
  refine hK2 _ _ ?_
  (try clear hK2 K2)
  refine wp_seq_k (fun K4 hK4 => ?_)
  refine wl_region ?_
  refine wl_give rfl (g_move _ (.pointer (some ⟨p, 0, none⟩)) rfl ?_)
  (try simp only [Act.put, List.setIfInBounds_toArray, List.set_cons_zero, List.set_cons_succ])
  refine wl_give rfl (g_move _ (.int .i64 (((t : Nat) : Int))) rfl ?_)
  (try simp only [Act.put, List.setIfInBounds_toArray, List.set_cons_zero, List.set_cons_succ])
  refine wl_give rfl (g_call 22 _ _ [.pointer (some ⟨p, 0, none⟩), .int .i64 (((t : Nat) : Int))] (kf22 _ _) rfl ((pass_any t hM (by omega) (by omega)).mono ?_))
  rintro e w5 ⟨m6, rfl, h_⟩
  refine ⟨_, rfl, ?_⟩
  replace hM : Ms w0 w5 (wk p n L t m6 :: R) := h_
  clear h_
  (try simp only [Act.put, List.setIfInBounds_toArray, List.set_cons_zero, List.set_cons_succ])
  refine wl_nil ?_
  refine hK4 _ _ ?_
  (try clear hK4 K4)
  refine wp_seq_k (fun K7 hK7 => ?_)
  refine wl_region ?_
  refine wl_give rfl (g_assign _ (.int .i64 (0)) rfl ?_)
  (try simp only [Act.put, List.setIfInBounds_toArray, List.set_cons_zero, List.set_cons_succ])
  refine wl_nil ?_
  refine hK7 _ _ ?_
  (try clear hK7 K7)
  refine wp_ret ?_
  go_ret
  exact ⟨m6, rfl, hM⟩
theorem pskip_no {w0 w : World} {R : List HP} {p n a m : Nat} {L : Ky} (hM : Ms w0 w (wk p n L a m :: R)) (t : Int) (h : t < ((a : Nat) : Int) ∨ (n : Int) < t) : Calls Tryd.prog 17 #[.pointer (some ⟨p, 0, none⟩), .int .i64 t] w fun e w' => e = .returned (.int .i64 1) ∧ Below w.heap.size w w' := by
  by_cases h1 : t < ((a : Nat) : Int)
  · exact skip_lo hM t h1
  · exact skip_hi hM t h1 (by omega)
theorem pskip_any {w0 w : World} {R : List HP} {p n a m : Nat} {L : Ky} (hM : Ms w0 w (wk p n L a m :: R)) (t : Int) (E : Int) (a' : Nat) (h : Shut (sk n a t = (E, a'))) : Calls Tryd.prog 17 #[.pointer (some ⟨p, 0, none⟩), .int .i64 t] w fun e w' => ∃ m', e = .returned (.int .i64 E) ∧ Ms w0 w' (wk p n L a' m' :: R) := by
  have h := h.out
  unfold sk at h
  by_cases ht : t < ((a : Nat) : Int) ∨ (n : Int) < t
  · rw [if_pos ht] at h; cases h
    exact (pskip_no hM t ht).mono fun e w' ⟨h1, h2⟩ => ⟨m, h1, hM.call h2⟩
  · rw [if_neg ht] at h; cases h
    obtain ⟨u, rfl⟩ : ∃ u : Nat, t = ((u : Nat) : Int) := ⟨t.toNat, by omega⟩
    rw [Int.toNat_natCast]
    exact skip_go hM u (by omega) (by omega)
set_option maxHeartbeats 4000000 in
theorem rnext_end {w0 w : World} {R : List HP} {r n a : Nat} {s : Ky} (hM : Ms w0 w (blk r (rc s ((n : Nat) : Int) ((a : Nat) : Int)) 34 :: R)) (ha : ¬ a ≤ n) : Calls Tryd.prog 16 #[.pointer (some ⟨r, 0, none⟩)] w fun e w' => e = .returned (.tuple #[.agg (kc zk).toArray, .int .i64 10]) ∧ Ms w0 w' (blk r (rc s ((n : Nat) : Int) ((a : Nat) : Int)) 34 :: R) := by
  go_enter Tryd.func16, Tryd.ntmps16
  refine wp_seq_k (fun K1 hK1 => ?_)
  refine wl_region ?_
  refine wl_give rfl (g_alloc 23 (kc (zk)) zeroK ?_)
  intro w2 t_ b_
  replace hM : Ms w0 w2 (blk (w.heap.size) (kc (zk)) 23 :: blk (r) (rc (s) (((n : Nat) : Int)) (((a : Nat) : Int))) 34 :: R) := hM.new t_ b_
  clear t_ b_
  (try simp only [Act.put, List.setIfInBounds_toArray, List.set_cons_zero, List.set_cons_succ])
  refine wl_give rfl (g_assign _ (.int .i64 (0)) rfl ?_)
  (try simp only [Act.put, List.setIfInBounds_toArray, List.set_cons_zero, List.set_cons_succ])
  refine wl_nil ?_
  refine hK1 _ _ ?_
  (try clear hK1 K1)
  refine wp_seq_k (fun K3 hK3 => ?_)
  refine wp_seq_k (fun K4 hK4 => ?_)
  refine wp_region_fixed (by kernel_rfl) (by kernel_rfl) [.pointer (some ⟨r, 0, none⟩), .pointer (some ⟨r, 0, none⟩), .pointer (some ⟨r, 33, none⟩), .int .i64 (((a : Nat) : Int)), .pointer (some ⟨r, 0, none⟩), .pointer (some ⟨r, 0, none⟩), .pointer (some ⟨r, 32, none⟩), .int .i64 (((n : Nat) : Int)), .bool true] (by rfl) (fun wx => Ms w0 wx (blk (w.heap.size) (kc (zk)) 23 :: blk (r) (rc (s) (((n : Nat) : Int)) (((a : Nat) : Int))) 34 :: R)) hM.drew ?_ ?_
  · simp only [fullL, Act.put, List.setIfInBounds_toArray, List.set_cons_succ, List.set_cons_zero]
    refine ⟨?_, ?_, ?_, ?_, ?_, ?_, ?_, ?_, ?_, trivial⟩
    · exact fun wx hM => gw rfl (g_move _ (.pointer (some ⟨r, 0, none⟩)) rfl ⟨rfl, hM⟩)
    · exact fun wx hM => gw rfl (g_nil _ ⟨r, 0, none⟩ rfl ⟨rfl, hM⟩)
    · exact fun wx hM => gw rfl (g_fa 34 _ (r) (0) (33) 2 rfl (faR2 _ _) ⟨rfl, hM⟩)
    · exact fun wx hM => gw rfl (g_ld1 3 _ (r) 33 _ rfl (ld3 _ _ _ _ ((hM.get 1 rfl).cell 33 _ (rc_a _ _ _))) ⟨rfl, hM⟩)
    · exact fun wx hM => gw rfl (g_move _ (.pointer (some ⟨r, 0, none⟩)) rfl ⟨rfl, hM⟩)
    · exact fun wx hM => gw rfl (g_nil _ ⟨r, 0, none⟩ rfl ⟨rfl, hM⟩)
    · exact fun wx hM => gw rfl (g_fa 34 _ (r) (0) (32) 1 rfl (faR1 _ _) ⟨rfl, hM⟩)
    · exact fun wx hM => gw rfl (g_ld1 3 _ (r) 32 _ rfl (ld3 _ _ _ _ ((hM.get 1 rfl).cell 32 _ (rc_n _ _ _))) ⟨rfl, hM⟩)
    · exact fun wx hM => gw rfl (g_igtr 3 _ _ .i64 (((a : Nat) : Int)) (((n : Nat) : Int)) true rfl rfl (decide_eq_true (by omega)) ⟨rfl, hM⟩)
  · simp only [fullL, Act.put, List.setIfInBounds_toArray, List.set_cons_succ, List.set_cons_zero]
    intro w5 hM
    refine hK4 _ _ ?_
    (try clear hK4 K4)
    refine wp_cond_true rfl ?_
    refine wp_seq_k (fun K6 hK6 => ?_)
    refine wl_region ?_
    refine wl_give rfl (g_bldK0 ?_)
    (try simp only [Act.put, List.setIfInBounds_toArray, List.set_cons_zero, List.set_cons_succ])
    refine wl_give rfl (g_store_all 23 _ _ (w.heap.size) (kc (zk)) _ 23 rfl rfl (hM.get 0 rfl) (szK _) (kk_len _ _) (one_kc _) ?_)
    intro w7 t_ b_
    replace hM : Ms w0 w7 (blk (w.heap.size) (kc (zk)) 23 :: blk (r) (rc (s) (((n : Nat) : Int)) (((a : Nat) : Int))) 34 :: R) := hM.put 0 rfl t_ b_
    clear t_ b_
    (try simp only [Act.put, List.setIfInBounds_toArray, List.set_cons_zero, List.set_cons_succ])
    refine wl_give rfl (g_assign _ (.int .i64 (10)) rfl ?_)
    (try simp only [Act.put, List.setIfInBounds_toArray, List.set_cons_zero, List.set_cons_succ])
    refine wl_nil ?_
    refine hK6 _ _ ?_
    (try clear hK6 K6)
    refine wp_ret ?_
    (try simp only [Exit.inBlock, Exit.then])
    exact bodyPost_ret (results_blk_tmp rfl _ (kc (zk)) (.int .i64 (10)) _ rfl rfl (hM.get 0 rfl) Tryd.underlying23 rfl (szK _)) rfl ⟨rfl, (hM.erase 0)⟩
set_option maxHeartbeats 4000000 in
theorem rnext_go {w0 w : World} {R : List HP} {r n a : Nat} {s : Ky} (hM : Ms w0 w (blk r (rc s ((n : Nat) : Int) ((a : Nat) : Int)) 34 :: R)) (L : Ky) (hk : Shut (ky s ((n : Nat) : Int) ((a : Nat) : Int) = (wl (n - a) L, 0))) (h2 : n ≤ 1024) (ha : a ≤ n) : Calls Tryd.prog 16 #[.pointer (some ⟨r, 0, none⟩)] w fun e w' => e = .returned (.tuple #[.agg (kc (wl (n - a) L)).toArray, .int .i64 0]) ∧ Ms w0 w' (blk r (rc s ((n : Nat) : Int) (((a + 1) : Nat) : Int)) 34 :: R) := by
  have he : Shut (IntKind.i64.wrap (((a : Nat) : Int) + 1) = ((a + 1 : Nat) : Int)) := ⟨by rw [wrap_id _ (by omega) (by omega)]; omega⟩
  go_enter Tryd.func16, Tryd.ntmps16
  refine wp_seq_k (fun K1 hK1 => ?_)
  refine wl_region ?_
  refine wl_give rfl (g_alloc 23 (kc (zk)) zeroK ?_)
  intro w2 t_ b_
  replace hM : Ms w0 w2 (blk (w.heap.size) (kc (zk)) 23 :: blk (r) (rc (s) (((n : Nat) : Int)) (((a : Nat) : Int))) 34 :: R) := hM.new t_ b_
  clear t_ b_
  (try simp only [Act.put, List.setIfInBounds_toArray, List.set_cons_zero, List.set_cons_succ])
  refine wl_give rfl (g_assign _ (.int .i64 (0)) rfl ?_)
  (try simp only [Act.put, List.setIfInBounds_toArray, List.set_cons_zero, List.set_cons_succ])
  refine wl_nil ?_
  refine hK1 _ _ ?_
  (try clear hK1 K1)
  refine wp_seq_k (fun K3 hK3 => ?_)
  refine wp_seq_k (fun K4 hK4 => ?_)
  refine wp_region_fixed (by kernel_rfl) (by kernel_rfl) [.pointer (some ⟨r, 0, none⟩), .pointer (some ⟨r, 0, none⟩), .pointer (some ⟨r, 33, none⟩), .int .i64 (((a : Nat) : Int)), .pointer (some ⟨r, 0, none⟩), .pointer (some ⟨r, 0, none⟩), .pointer (some ⟨r, 32, none⟩), .int .i64 (((n : Nat) : Int)), .bool false] (by rfl) (fun wx => Ms w0 wx (blk (w.heap.size) (kc (zk)) 23 :: blk (r) (rc (s) (((n : Nat) : Int)) (((a : Nat) : Int))) 34 :: R)) hM.drew ?_ ?_
  · simp only [fullL, Act.put, List.setIfInBounds_toArray, List.set_cons_succ, List.set_cons_zero]
    refine ⟨?_, ?_, ?_, ?_, ?_, ?_, ?_, ?_, ?_, trivial⟩
    · exact fun wx hM => gw rfl (g_move _ (.pointer (some ⟨r, 0, none⟩)) rfl ⟨rfl, hM⟩)
    · exact fun wx hM => gw rfl (g_nil _ ⟨r, 0, none⟩ rfl ⟨rfl, hM⟩)
    · exact fun wx hM => gw rfl (g_fa 34 _ (r) (0) (33) 2 rfl (faR2 _ _) ⟨rfl, hM⟩)
    · exact fun wx hM => gw rfl (g_ld1 3 _ (r) 33 _ rfl (ld3 _ _ _ _ ((hM.get 1 rfl).cell 33 _ (rc_a _ _ _))) ⟨rfl, hM⟩)
    · exact fun wx hM => gw rfl (g_move _ (.pointer (some ⟨r, 0, none⟩)) rfl ⟨rfl, hM⟩)
    · exact fun wx hM => gw rfl (g_nil _ ⟨r, 0, none⟩ rfl ⟨rfl, hM⟩)
    · exact fun wx hM => gw rfl (g_fa 34 _ (r) (0) (32) 1 rfl (faR1 _ _) ⟨rfl, hM⟩)
    · exact fun wx hM => gw rfl (g_ld1 3 _ (r) 32 _ rfl (ld3 _ _ _ _ ((hM.get 1 rfl).cell 32 _ (rc_n _ _ _))) ⟨rfl, hM⟩)
    · exact fun wx hM => gw rfl (g_igtr 3 _ _ .i64 (((a : Nat) : Int)) (((n : Nat) : Int)) false rfl rfl (decide_eq_false (by omega)) ⟨rfl, hM⟩)
  · simp only [fullL, Act.put, List.setIfInBounds_toArray, List.set_cons_succ, List.set_cons_zero]
    intro w5 hM
    refine hK4 _ _ ?_
    (try clear hK4 K4)
    refine wp_cond_false rfl ?_
    refine wp_skip ?_
    refine hK3 _ _ ?_
    (try clear hK3 K3)
    refine wp_seq_k (fun K6 hK6 => ?_)
    refine wp_region_steps (by kernel_rfl) (by kernel_rfl) [16, 17] [0, 0, 0, 0, 0, 0, 0, 0, 0, 0, 0, 0, 0, 0, 0, 0, 0, 1, 2] [1, 1, 1, 1, 1, 1, 1, 1, 1, 1, 1, 1, 1, 1, 1, 2, 1, 2, 2] (by kernel_rfl) (Pm := Nat) (fun π => [.pointer (some ⟨r, 0, none⟩), .pointer (some ⟨r, 0, none⟩), .pointer (some ⟨r, 0, none⟩), .agg (kc (s)).toArray, .pointer (some ⟨r, 0, none⟩), .pointer (some ⟨r, 0, none⟩), .pointer (some ⟨r, 32, none⟩), .int .i64 (((n : Nat) : Int)), .pointer (some ⟨r, 0, none⟩), .pointer (some ⟨r, 0, none⟩), .pointer (some ⟨r, 33, none⟩), .int .i64 (((a : Nat) : Int)), .tuple #[.agg (kc (wl (n - a) L)).toArray, .int .i64 (0)], .tuple #[.agg (kc (wl (n - a) L)).toArray, .int .i64 (0)], .agg (kc (wl (n - a) L)).toArray, .int .i64 (0), .pointer (some ⟨π, 0, none⟩), undef, .int .i64 (0)]) (fun _ => by rfl) (fun j π wx => match j with | 0 => Ms w0 wx (blk (w.heap.size) (kc (zk)) 23 :: blk (r) (rc (s) (((n : Nat) : Int)) (((a : Nat) : Int))) 34 :: R) | 1 => Ms w0 wx (blk (π) (kc (zk)) 23 :: blk (w.heap.size) (kc (zk)) 23 :: blk (r) (rc (s) (((n : Nat) : Int)) (((a : Nat) : Int))) 34 :: R) | _ => Ms w0 wx (blk (π) (kc (wl (n - a) L)) 23 :: blk (w.heap.size) (kc (zk)) 23 :: blk (r) (rc (s) (((n : Nat) : Int)) (((a : Nat) : Int))) 34 :: R)) (0) hM.drew ?_ ?_ ?_
    · intro j k o hj ho π wx hM
      rcases j with _ | _ | j
      · obtain rfl := Option.some.inj hj
        obtain rfl := Option.some.inj ho
        simp only [fullL, Act.put, List.setIfInBounds_toArray, List.set_cons_succ, List.set_cons_zero]
        replace hM : Ms w0 wx (blk (w.heap.size) (kc (zk)) 23 :: blk (r) (rc (s) (((n : Nat) : Int)) (((a : Nat) : Int))) 34 :: R) := hM
        exact gw rfl (g_alloc 23 (kc (zk)) zeroK (fun w' t_ b_ => ⟨(wx.heap.size), rfl, fun i h1 h2 => by rcases i with _ | _ | _ | _ | _ | _ | _ | _ | _ | _ | _ | _ | _ | _ | _ | _ | _ | _ | _ | i <;> first | rfl | exact absurd rfl h2 | exact absurd h1 (by decide), hM.new t_ b_⟩))
      · obtain rfl := Option.some.inj hj
        obtain rfl := Option.some.inj ho
        simp only [fullL, Act.put, List.setIfInBounds_toArray, List.set_cons_succ, List.set_cons_zero]
        replace hM : Ms w0 wx (blk (π) (kc (zk)) 23 :: blk (w.heap.size) (kc (zk)) 23 :: blk (r) (rc (s) (((n : Nat) : Int)) (((a : Nat) : Int))) 34 :: R) := hM
        exact gw rfl (g_store_all 23 _ _ (π) (kc (wl (n - a) L)) _ 23 rfl rfl (hM.get 0 rfl) (szK _) (kk_len _ _) (one_kc _) (fun w' t_ b_ => ⟨(π), rfl, fun i h1 h2 => by rcases i with _ | _ | _ | _ | _ | _ | _ | _ | _ | _ | _ | _ | _ | _ | _ | _ | _ | _ | _ | i <;> first | rfl | exact absurd rfl h2 | exact absurd h1 (by decide), hM.put 0 rfl t_ b_⟩))
      · simp at hj
    · intro i o ho hi j hd hh hj π wx hM
      simp only [fullL, Act.put, List.setIfInBounds_toArray, List.set_cons_succ, List.set_cons_zero]
      rcases i with _ | _ | _ | _ | _ | _ | _ | _ | _ | _ | _ | _ | _ | _ | _ | _ | _ | _ | _ | i
      · obtain rfl := Option.some.inj ho
        exact gw rfl (g_move _ (.pointer (some ⟨r, 0, none⟩)) rfl ⟨rfl, hM⟩)
      · obtain rfl := Option.some.inj ho
        exact gw rfl (g_nil _ ⟨r, 0, none⟩ rfl ⟨rfl, hM⟩)
      · obtain rfl := Option.some.inj ho
        exact gw rfl (g_fa 34 _ (r) (0) (0) 0 rfl (faR0 _ _) ⟨rfl, hM⟩)
      · obtain rfl := Option.some.inj ho
        rcases j with _ | _ | _ | j
        · replace hM : Ms w0 wx (blk (w.heap.size) (kc (zk)) 23 :: blk (r) (rc (s) (((n : Nat) : Int)) (((a : Nat) : Int))) 34 :: R) := hM
          exact gw rfl (g_load 23 _ (r) 0 32 _ 34 _ rfl (hM.get 1 rfl) Tryd.underlying23 rfl size23 (by rw [rc_length]; decide) (kc (s)) (rc_key _ _ _) ⟨rfl, hM⟩)
        · replace hM : Ms w0 wx (blk (π) (kc (zk)) 23 :: blk (w.heap.size) (kc (zk)) 23 :: blk (r) (rc (s) (((n : Nat) : Int)) (((a : Nat) : Int))) 34 :: R) := hM
          exact gw rfl (g_load 23 _ (r) 0 32 _ 34 _ rfl (hM.get 2 rfl) Tryd.underlying23 rfl size23 (by rw [rc_length]; decide) (kc (s)) (rc_key _ _ _) ⟨rfl, hM⟩)
        · exact absurd hh (by decide)
        · exact absurd hj (by simp)
      · obtain rfl := Option.some.inj ho
        exact gw rfl (g_move _ (.pointer (some ⟨r, 0, none⟩)) rfl ⟨rfl, hM⟩)
      · obtain rfl := Option.some.inj ho
        exact gw rfl (g_nil _ ⟨r, 0, none⟩ rfl ⟨rfl, hM⟩)
      · obtain rfl := Option.some.inj ho
        exact gw rfl (g_fa 34 _ (r) (0) (32) 1 rfl (faR1 _ _) ⟨rfl, hM⟩)
      · obtain rfl := Option.some.inj ho
        rcases j with _ | _ | _ | j
        · replace hM : Ms w0 wx (blk (w.heap.size) (kc (zk)) 23 :: blk (r) (rc (s) (((n : Nat) : Int)) (((a : Nat) : Int))) 34 :: R) := hM
          exact gw rfl (g_ld1 3 _ (r) 32 _ rfl (ld3 _ _ _ _ ((hM.get 1 rfl).cell 32 _ (rc_n _ _ _))) ⟨rfl, hM⟩)
        · replace hM : Ms w0 wx (blk (π) (kc (zk)) 23 :: blk (w.heap.size) (kc (zk)) 23 :: blk (r) (rc (s) (((n : Nat) : Int)) (((a : Nat) : Int))) 34 :: R) := hM
          exact gw rfl (g_ld1 3 _ (r) 32 _ rfl (ld3 _ _ _ _ ((hM.get 2 rfl).cell 32 _ (rc_n _ _ _))) ⟨rfl, hM⟩)
        · exact absurd hh (by decide)
        · exact absurd hj (by simp)
      · obtain rfl := Option.some.inj ho
        exact gw rfl (g_move _ (.pointer (some ⟨r, 0, none⟩)) rfl ⟨rfl, hM⟩)
      · obtain rfl := Option.some.inj ho
        exact gw rfl (g_nil _ ⟨r, 0, none⟩ rfl ⟨rfl, hM⟩)
      · obtain rfl := Option.some.inj ho
        exact gw rfl (g_fa 34 _ (r) (0) (33) 2 rfl (faR2 _ _) ⟨rfl, hM⟩)
      · obtain rfl := Option.some.inj ho
        rcases j with _ | _ | _ | j
        · replace hM : Ms w0 wx (blk (w.heap.size) (kc (zk)) 23 :: blk (r) (rc (s) (((n : Nat) : Int)) (((a : Nat) : Int))) 34 :: R) := hM
          exact gw rfl (g_ld1 3 _ (r) 33 _ rfl (ld3 _ _ _ _ ((hM.get 1 rfl).cell 33 _ (rc_a _ _ _))) ⟨rfl, hM⟩)
        · replace hM : Ms w0 wx (blk (π) (kc (zk)) 23 :: blk (w.heap.size) (kc (zk)) 23 :: blk (r) (rc (s) (((n : Nat) : Int)) (((a : Nat) : Int))) 34 :: R) := hM
          exact gw rfl (g_ld1 3 _ (r) 33 _ rfl (ld3 _ _ _ _ ((hM.get 2 rfl).cell 33 _ (rc_a _ _ _))) ⟨rfl, hM⟩)
        · exact absurd hh (by decide)
        · exact absurd hj (by simp)
      · obtain rfl := Option.some.inj ho
        rcases j with _ | _ | _ | j
        · replace hM : Ms w0 wx (blk (w.heap.size) (kc (zk)) 23 :: blk (r) (rc (s) (((n : Nat) : Int)) (((a : Nat) : Int))) 34 :: R) := hM
          exact gw rfl (g_call 19 _ _ [.agg (kc (s)).toArray, .int .i64 (((n : Nat) : Int)), .int .i64 (((a : Nat) : Int))] (kf19 _ _) rfl ((rckey_any s ((n : Nat) : Int) ((a : Nat) : Int) wx (wl (n - a) L) 0 hk).mono (fun _ _ ⟨h1_, h2_⟩ => ⟨_, h1_, rfl, hM.call h2_⟩)))
        · replace hM : Ms w0 wx (blk (π) (kc (zk)) 23 :: blk (w.heap.size) (kc (zk)) 23 :: blk (r) (rc (s) (((n : Nat) : Int)) (((a : Nat) : Int))) 34 :: R) := hM
          exact gw rfl (g_call 19 _ _ [.agg (kc (s)).toArray, .int .i64 (((n : Nat) : Int)), .int .i64 (((a : Nat) : Int))] (kf19 _ _) rfl ((rckey_any s ((n : Nat) : Int) ((a : Nat) : Int) wx (wl (n - a) L) 0 hk).mono (fun _ _ ⟨h1_, h2_⟩ => ⟨_, h1_, rfl, hM.call h2_⟩)))
        · exact absurd hh (by decide)
        · exact absurd hj (by simp)
      · obtain rfl := Option.some.inj ho
        exact gw rfl (g_move _ (.tuple #[.agg (kc (wl (n - a) L)).toArray, .int .i64 (0)]) rfl ⟨rfl, hM⟩)
      · obtain rfl := Option.some.inj ho
        exact gw rfl (g_extract _ #[.agg (kc (wl (n - a) L)).toArray, .int .i64 (0)] 0 (.agg (kc (wl (n - a) L)).toArray) rfl rfl ⟨rfl, hM⟩)
      · obtain rfl := Option.some.inj ho
        exact gw rfl (g_extract _ #[.agg (kc (wl (n - a) L)).toArray, .int .i64 (0)] 1 (.int .i64 (0)) rfl rfl ⟨rfl, hM⟩)
      · exact absurd (by decide) hi
      · exact absurd (by decide) hi
      · obtain rfl := Option.some.inj ho
        exact gw rfl (g_assign _ (.int .i64 (0)) rfl ⟨rfl, hM⟩)
      · simp at ho
    · simp only [fullL, Act.put, List.setIfInBounds_toArray, List.set_cons_succ, List.set_cons_zero]
      rintro p8 w7 hM
      replace hM : Ms w0 w7 (blk (p8) (kc (wl (n - a) L)) 23 :: blk (w.heap.size) (kc (zk)) 23 :: blk (r) (rc (s) (((n : Nat) : Int)) (((a : Nat) : Int))) 34 :: R) := hM
      refine hK6 _ _ ?_
      (try clear hK6 K6)
      refine wp_seq_k (fun K9 hK9 => ?_)
      refine wl_region ?_
      refine wl_give rfl (g_move _ (.pointer (some ⟨r, 0, none⟩)) rfl ?_)
      (try simp only [Act.put, List.setIfInBounds_toArray, List.set_cons_zero, List.set_cons_succ])
      refine wl_give rfl (g_nil _ ⟨r, 0, none⟩ rfl ?_)
      (try simp only [Act.put, List.setIfInBounds_toArray, List.set_cons_zero, List.set_cons_succ])
      refine wl_give rfl (g_fa 34 _ (r) (0) (33) 2 rfl (faR2 _ _) ?_)
      (try simp only [Act.put, List.setIfInBounds_toArray, List.set_cons_zero, List.set_cons_succ])
      refine wl_give rfl (g_ld1 3 _ (r) 33 _ rfl (ld3 _ _ _ _ ((hM.get 2 rfl).cell 33 _ (rc_a _ _ _))) ?_)
      (try simp only [Act.put, List.setIfInBounds_toArray, List.set_cons_zero, List.set_cons_succ])
      refine wl_give rfl (g_ia 3 _ _ .i64 (((a : Nat) : Int)) (1) (((a + 1 : Nat) : Int)) rfl rfl he.out ?_)
      (try simp only [Act.put, List.setIfInBounds_toArray, List.set_cons_zero, List.set_cons_succ])
      refine wl_give rfl (g_nil _ ⟨r, 0, none⟩ rfl ?_)
      (try simp only [Act.put, List.setIfInBounds_toArray, List.set_cons_zero, List.set_cons_succ])
      refine wl_give rfl (g_fa 34 _ (r) (0) (33) 2 rfl (faR2 _ _) ?_)
      (try simp only [Act.put, List.setIfInBounds_toArray, List.set_cons_zero, List.set_cons_succ])
      refine wl_give rfl (g_st1 3 _ _ (r) 33 (.int .i64 (((a + 1 : Nat) : Int))) _ 34 rfl rfl (hM.get 2 rfl) (by rw [rc_length]; decide) rfl rfl size3 ?_)
      intro w10 t_ b_
      replace hM : Ms w0 w10 (blk (p8) (kc (wl (n - a) L)) 23 :: blk (w.heap.size) (kc (zk)) 23 :: blk (r) (rc (s) (((n : Nat) : Int)) (((a + 1 : Nat) : Int))) 34 :: R) := hM.put 2 rfl t_ (rc_set _ _ _ _ ▸ b_)
      clear t_ b_
      (try simp only [Act.put, List.setIfInBounds_toArray, List.set_cons_zero, List.set_cons_succ])
      refine wl_nil ?_
      refine hK9 _ _ ?_
      (try clear hK9 K9)
      refine wp_seq_k (fun K11 hK11 => ?_)
      refine wl_region ?_
      refine wl_give rfl (g_load_all 23 _ (p8) (kc (wl (n - a) L)) 23 _ rfl (hM.get 0 rfl) Tryd.underlying23 rfl (szK _) ?_)
      (try simp only [Act.put, List.setIfInBounds_toArray, List.set_cons_zero, List.set_cons_succ])
      refine wl_give rfl (g_store_all 23 _ _ (w.heap.size) (kc (wl (n - a) L)) _ 23 rfl rfl (hM.get 1 rfl) (szK _) (kk_len _ _) (one_kc _) ?_)
      intro w12 t_ b_
      replace hM : Ms w0 w12 (blk (p8) (kc (wl (n - a) L)) 23 :: blk (w.heap.size) (kc (wl (n - a) L)) 23 :: blk (r) (rc (s) (((n : Nat) : Int)) (((a + 1 : Nat) : Int))) 34 :: R) := hM.put 1 rfl t_ b_
      clear t_ b_
      (try simp only [Act.put, List.setIfInBounds_toArray, List.set_cons_zero, List.set_cons_succ])
      refine wl_give rfl (g_assign _ (.int .i64 (0)) rfl ?_)
      (try simp only [Act.put, List.setIfInBounds_toArray, List.set_cons_zero, List.set_cons_succ])
      refine wl_nil ?_
      refine hK11 _ _ ?_
      (try clear hK11 K11)
      refine wp_ret ?_
      (try simp only [Exit.inBlock, Exit.then])
      exact bodyPost_ret (results_blk_tmp rfl _ (kc (wl (n - a) L)) (.int .i64 (0)) _ rfl rfl (hM.get 1 rfl) Tryd.underlying23 rfl (szK _)) rfl ⟨rfl, ((hM.erase 0).erase 0)⟩
theorem rnext_any {w0 w : World} {R : List HP} {r n a : Nat} {s : Ky} (hM : Ms w0 w (blk r (rc s ((n : Nat) : Int) ((a : Nat) : Int)) 34 :: R)) (L : Ky) (hL : Shut (tg s chainW = L)) (h1 : 1 ≤ n) (h2 : n ≤ 1024) (K : Ky) (E : Int) (a' : Nat) (h : Shut (nx n L a = ((K, E), a'))) : Calls Tryd.prog 16 #[.pointer (some ⟨r, 0, none⟩)] w fun e w' => e = .returned (.tuple #[.agg (kc K).toArray, .int .i64 E]) ∧ Ms w0 w' (blk r (rc s ((n : Nat) : Int) ((a' : Nat) : Int)) 34 :: R) := by
  have h := h.out
  unfold nx at h
  by_cases ha : a ≤ n
  · rw [if_pos ha] at h; cases h; exact rnext_go hM L ⟨ky_nat s L n a h1 h2 ha hL.out⟩ h2 ha
  · rw [if_neg ha] at h; cases h; exact rnext_end hM ha
set_option maxHeartbeats 4000000 in
theorem rskip_lo {w0 w : World} {R : List HP} {r n a : Nat} {s : Ky} (hM : Ms w0 w (blk r (rc s ((n : Nat) : Int) ((a : Nat) : Int)) 34 :: R)) (t : Int) (h1 : t < ((a : Nat) : Int)) : Calls Tryd.prog 18 #[.pointer (some ⟨r, 0, none⟩), .int .i64 t] w fun e w' => e = .returned (.int .i64 1) ∧ Ms w0 w' (blk r (rc s ((n : Nat) : Int) ((a : Nat) : Int)) 34 :: R) := by
  go_enter Tryd.func18, Tryd.ntmps18
  refine wp_seq_k (fun K1 hK1 => ?_)
  refine wl_region ?_
  refine wl_give rfl (g_assign _ (.int .i64 (0)) rfl ?_)
  (try simp only [Act.put, List.setIfInBounds_toArray, List.set_cons_zero, List.set_cons_succ])
  refine wl_nil ?_
  refine hK1 _ _ ?_
  (try clear hK1 K1)
  refine wp_seq_k (fun K2 hK2 => ?_)
  refine wp_seq_k (fun K3 hK3 => ?_)
  refine wl_region ?_
  refine wl_give rfl (g_move _ (.int .i64 (t)) rfl ?_)
  (try simp only [Act.put, List.setIfInBounds_toArray, List.set_cons_zero, List.set_cons_succ])
  refine wl_give rfl (g_move _ (.pointer (some ⟨r, 0, none⟩)) rfl ?_)
  (try simp only [Act.put, List.setIfInBounds_toArray, List.set_cons_zero, List.set_cons_succ])
  refine wl_give rfl (g_nil _ ⟨r, 0, none⟩ rfl ?_)
  (try simp only [Act.put, List.setIfInBounds_toArray, List.set_cons_zero, List.set_cons_succ])
  refine wl_give rfl (g_fa 34 _ (r) (0) (33) 2 rfl (faR2 _ _) ?_)
  (try simp only [Act.put, List.setIfInBounds_toArray, List.set_cons_zero, List.set_cons_succ])
  refine wl_give rfl (g_ld1 3 _ (r) 33 _ rfl (ld3 _ _ _ _ ((hM.get 0 rfl).cell 33 _ (rc_a _ _ _))) ?_)
  (try simp only [Act.put, List.setIfInBounds_toArray, List.set_cons_zero, List.set_cons_succ])
  refine wl_give rfl (g_ilss 3 _ _ .i64 (t) (((a : Nat) : Int)) true rfl rfl (decide_eq_true h1) ?_)
  (try simp only [Act.put, List.setIfInBounds_toArray, List.set_cons_zero, List.set_cons_succ])
  refine wl_give rfl (g_move _ (.bool true) rfl ?_)
  (try simp only [Act.put, List.setIfInBounds_toArray, List.set_cons_zero, List.set_cons_succ])
  refine wl_skip rfl ?_
  (try simp only [Act.put, List.setIfInBounds_toArray, List.set_cons_zero, List.set_cons_succ])
  refine wl_skip rfl ?_
  (try simp only [Act.put, List.setIfInBounds_toArray, List.set_cons_zero, List.set_cons_succ])
  refine wl_skip rfl ?_
  (try simp only [Act.put, List.setIfInBounds_toArray, List.set_cons_zero, List.set_cons_succ])
  refine wl_skip rfl ?_
  (try simp only [Act.put, List.setIfInBounds_toArray, List.set_cons_zero, List.set_cons_succ])
  refine wl_skip rfl ?_
  (try simp only [Act.put, List.setIfInBounds_toArray, List.set_cons_zero, List.set_cons_succ])
  refine wl_skip rfl ?_
  (try simp only [Act.put, List.setIfInBounds_toArray, List.set_cons_zero, List.set_cons_succ])
  refine wl_give rfl (g_pickt _ _ _ (.bool true) rfl rfl ?_)
  (try simp only [Act.put, List.setIfInBounds_toArray, List.set_cons_zero, List.set_cons_succ])
  refine wl_nil ?_
  refine hK3 _ _ ?_
  (try clear hK3 K3)
  refine wp_cond_true rfl ?_
  refine wp_seq_k (fun K4 hK4 => ?_)
  refine wl_region ?_
  refine wl_give rfl (g_assign _ (.int .i64 (1)) rfl ?_)
  (try simp only [Act.put, List.setIfInBounds_toArray, List.set_cons_zero, List.set_cons_succ])
  refine wl_nil ?_
  refine hK4 _ _ ?_
  (try clear hK4 K4)
  refine wp_ret ?_
  go_ret
  exact ⟨rfl, hM⟩
set_option maxHeartbeats 4000000 in
theorem rskip_hi {w0 w : World} {R : List HP} {r n a : Nat} {s : Ky} (hM : Ms w0 w (blk r (rc s ((n : Nat) : Int) ((a : Nat) : Int)) 34 :: R)) (t : Int) (h1 : ¬ t < ((a : Nat) : Int)) (h2 : ((n : Nat) : Int) < t) : Calls Tryd.prog 18 #[.pointer (some ⟨r, 0, none⟩), .int .i64 t] w fun e w' => e = .returned (.int .i64 1) ∧ Ms w0 w' (blk r (rc s ((n : Nat) : Int) ((a : Nat) : Int)) 34 :: R) := by
  go_enter Tryd.func18, Tryd.ntmps18
  refine wp_seq_k (fun K1 hK1 => ?_)
  refine wl_region ?_
  refine wl_give rfl (g_assign _ (.int .i64 (0)) rfl ?_)
  (try simp only [Act.put, List.setIfInBounds_toArray, List.set_cons_zero, List.set_cons_succ])
  refine wl_nil ?_
  refine hK1 _ _ ?_
  (try clear hK1 K1)
  refine wp_seq_k (fun K2 hK2 => ?_)
  refine wp_seq_k (fun K3 hK3 => ?_)
  refine wl_region ?_
  refine wl_give rfl (g_move _ (.int .i64 (t)) rfl ?_)
  (try simp only [Act.put, List.setIfInBounds_toArray, List.set_cons_zero, List.set_cons_succ])
  refine wl_give rfl (g_move _ (.pointer (some ⟨r, 0, none⟩)) rfl ?_)
  (try simp only [Act.put, List.setIfInBounds_toArray, List.set_cons_zero, List.set_cons_succ])
  refine wl_give rfl (g_nil _ ⟨r, 0, none⟩ rfl ?_)
  (try simp only [Act.put, List.setIfInBounds_toArray, List.set_cons_zero, List.set_cons_succ])
  refine wl_give rfl (g_fa 34 _ (r) (0) (33) 2 rfl (faR2 _ _) ?_)
  (try simp only [Act.put, List.setIfInBounds_toArray, List.set_cons_zero, List.set_cons_succ])
  refine wl_give rfl (g_ld1 3 _ (r) 33 _ rfl (ld3 _ _ _ _ ((hM.get 0 rfl).cell 33 _ (rc_a _ _ _))) ?_)
  (try simp only [Act.put, List.setIfInBounds_toArray, List.set_cons_zero, List.set_cons_succ])
  refine wl_give rfl (g_ilss 3 _ _ .i64 (t) (((a : Nat) : Int)) false rfl rfl (decide_eq_false h1) ?_)
  (try simp only [Act.put, List.setIfInBounds_toArray, List.set_cons_zero, List.set_cons_succ])
  refine wl_give rfl (g_move _ (.bool false) rfl ?_)
  (try simp only [Act.put, List.setIfInBounds_toArray, List.set_cons_zero, List.set_cons_succ])
  refine wl_give rfl (g_move _ (.int .i64 (t)) rfl ?_)
  (try simp only [Act.put, List.setIfInBounds_toArray, List.set_cons_zero, List.set_cons_succ])
  refine wl_give rfl (g_move _ (.pointer (some ⟨r, 0, none⟩)) rfl ?_)
  (try simp only [Act.put, List.setIfInBounds_toArray, List.set_cons_zero, List.set_cons_succ])
  refine wl_give rfl (g_nil _ ⟨r, 0, none⟩ rfl ?_)
  (try simp only [Act.put, List.setIfInBounds_toArray, List.set_cons_zero, List.set_cons_succ])
  refine wl_give rfl (g_fa 34 _ (r) (0) (32) 1 rfl (faR1 _ _) ?_)
  (try simp only [Act.put, List.setIfInBounds_toArray, List.set_cons_zero, List.set_cons_succ])
  refine wl_give rfl (g_ld1 3 _ (r) 32 _ rfl (ld3 _ _ _ _ ((hM.get 0 rfl).cell 32 _ (rc_n _ _ _))) ?_)
  (try simp only [Act.put, List.setIfInBounds_toArray, List.set_cons_zero, List.set_cons_succ])
  refine wl_give rfl (g_igtr 3 _ _ .i64 (t) (((n : Nat) : Int)) true rfl rfl (decide_eq_true h2) ?_)
  (try simp only [Act.put, List.setIfInBounds_toArray, List.set_cons_zero, List.set_cons_succ])
  refine wl_give rfl (g_pickf _ _ _ (.bool true) rfl rfl ?_)
  (try simp only [Act.put, List.setIfInBounds_toArray, List.set_cons_zero, List.set_cons_succ])
  refine wl_nil ?_
  refine hK3 _ _ ?_
  (try clear hK3 K3)
  refine wp_cond_true rfl ?_
  refine wp_seq_k (fun K4 hK4 => ?_)
  refine wl_region ?_
  refine wl_give rfl (g_assign _ (.int .i64 (1)) rfl ?_)
  (try simp only [Act.put, List.setIfInBounds_toArray, List.set_cons_zero, List.set_cons_succ])
  refine wl_nil ?_
  refine hK4 _ _ ?_
  (try clear hK4 K4)
  refine wp_ret ?_
  go_ret
  exact ⟨rfl, hM⟩
set_option maxHeartbeats 4000000 in
theorem rskip_go {w0 w : World} {R : List HP} {r n a : Nat} {s : Ky} (hM : Ms w0 w (blk r (rc s ((n : Nat) : Int) ((a : Nat) : Int)) 34 :: R)) (t : Nat) (h1 : ¬ ((t : Nat) : Int) < ((a : Nat) : Int)) (h2 : ¬ ((n : Nat) : Int) < ((t : Nat) : Int)) : Calls Tryd.prog 18 #[.pointer (some ⟨r, 0, none⟩), .int .i64 ((t : Nat) : Int)] w fun e w' => e = .returned (.int .i64 0) ∧ Ms w0 w' (blk r (rc s ((n : Nat) : Int) ((t : Nat) : Int)) 34 :: R) := by
  go_enter Tryd.func18, Tryd.ntmps18
  refine wp_seq_k (fun K1 hK1 => ?_)
  refine wl_region ?_
  refine wl_give rfl (g_assign _ (.int .i64 (0)) rfl ?_)
  (try simp only [Act.put, List.setIfInBounds_toArray, List.set_cons_zero, List.set_cons_succ])
  refine wl_nil ?_
  refine hK1 _ _ ?_
  (try clear hK1 K1)
  refine wp_seq_k (fun K2 hK2 => ?_)
  refine wp_seq_k (fun K3 hK3 => ?_)
  refine wl_region ?_
  refine wl_give rfl (g_move _ (.int .i64 (((t : Nat) : Int))) rfl ?_)
  (try simp only [Act.put, List.setIfInBounds_toArray, List.set_cons_zero, List.set_cons_succ])
  refine wl_give rfl (g_move _ (.pointer (some ⟨r, 0, none⟩)) rfl ?_)
  (try simp only [Act.put, List.setIfInBounds_toArray, List.set_cons_zero, List.set_cons_succ])
  refine wl_give rfl (g_nil _ ⟨r, 0, none⟩ rfl ?_)
  (try simp only [Act.put, List.setIfInBounds_toArray, List.set_cons_zero, List.set_cons_succ])
  refine wl_give rfl (g_fa 34 _ (r) (0) (33) 2 rfl (faR2 _ _) ?_)
  (try simp only [Act.put, List.setIfInBounds_toArray, List.set_cons_zero, List.set_cons_succ])
  refine wl_give rfl (g_ld1 3 _ (r) 33 _ rfl (ld3 _ _ _ _ ((hM.get 0 rfl).cell 33 _ (rc_a _ _ _))) ?_)
  (try simp only [Act.put, List.setIfInBounds_toArray, List.set_cons_zero, List.set_cons_succ])
  refine wl_give rfl (g_ilss 3 _ _ .i64 (((t : Nat) : Int)) (((a : Nat) : Int)) false rfl rfl (decide_eq_false h1) ?_)
  (try simp only [Act.put, List.setIfInBounds_toArray, List.set_cons_zero, List.set_cons_succ])
  refine wl_give rfl (g_move _ (.bool false) rfl ?_)
  (try simp only [Act.put, List.setIfInBounds_toArray, List.set_cons_zero, List.set_cons_succ])
  refine wl_give rfl (g_move _ (.int .i64 (((t : Nat) : Int))) rfl ?_)
  (try simp only [Act.put, List.setIfInBounds_toArray, List.set_cons_zero, List.set_cons_succ])
  refine wl_give rfl (g_move _ (.pointer (some ⟨r, 0, none⟩)) rfl ?_)
  (try simp only [Act.put, List.setIfInBounds_toArray, List.set_cons_zero, List.set_cons_succ])
  refine wl_give rfl (g_nil _ ⟨r, 0, none⟩ rfl ?_)
  (try simp only [Act.put, List.setIfInBounds_toArray, List.set_cons_zero, List.set_cons_succ])
  refine wl_give rfl (g_fa 34 _ (r) (0) (32) 1 rfl (faR1 _ _) ?_)
  (try simp only [Act.put, List.setIfInBounds_toArray, List.set_cons_zero, List.set_cons_succ])
  refine wl_give rfl (g_ld1 3 _ (r) 32 _ rfl (ld3 _ _ _ _ ((hM.get 0 rfl).cell 32 _ (rc_n _ _ _))) ?_)
  (try simp only [Act.put, List.setIfInBounds_toArray, List.set_cons_zero, List.set_cons_succ])
  refine wl_give rfl (g_igtr 3 _ _ .i64 (((t : Nat) : Int)) (((n : Nat) : Int)) false rfl rfl (decide_eq_false h2) ?_)
  (try simp only [Act.put, List.setIfInBounds_toArray, List.set_cons_zero, List.set_cons_succ])
  refine wl_give rfl (g_pickf _ _ _ (.bool false) rfl rfl ?_)
  (try simp only [Act.put, List.setIfInBounds_toArray, List.set_cons_zero, List.set_cons_succ])
  refine wl_nil ?_
  refine hK3 _ _ ?_
  (try clear hK3 K3)
  refine wp_cond_false rfl ?_
  refine wp_skip ?_
  refine hK2 _ _ ?_
  (try clear hK2 K2)
  refine wp_seq_k (fun K4 hK4 => ?_)
  refine wl_region ?_
  refine wl_give rfl (g_move _ (.pointer (some ⟨r, 0, none⟩)) rfl ?_)
  (try simp only [Act.put, List.setIfInBounds_toArray, List.set_cons_zero, List.set_cons_succ])
  refine wl_give rfl (g_move _ (.int .i64 (((t : Nat) : Int))) rfl ?_)
  (try simp only [Act.put, List.setIfInBounds_toArray, List.set_cons_zero, List.set_cons_succ])
  refine wl_give rfl (g_nil _ ⟨r, 0, none⟩ rfl ?_)
  (try simp only [Act.put, List.setIfInBounds_toArray, List.set_cons_zero, List.set_cons_succ])
  refine wl_give rfl (g_fa 34 _ (r) (0) (33) 2 rfl (faR2 _ _) ?_)
  (try simp only [Act.put, List.setIfInBounds_toArray, List.set_cons_zero, List.set_cons_succ])
  refine wl_give rfl (g_st1 3 _ _ (r) 33 (.int .i64 (((t : Nat) : Int))) _ 34 rfl rfl (hM.get 0 rfl) (by rw [rc_length]; decide) rfl rfl size3 ?_)
  intro w5 t_ b_
  replace hM : Ms w0 w5 (blk (r) (rc (s) (((n : Nat) : Int)) (((t : Nat) : Int))) 34 :: R) := hM.put 0 rfl t_ (rc_set _ _ _ _ ▸ b_)
  clear t_ b_
  (try simp only [Act.put, List.setIfInBounds_toArray, List.set_cons_zero, List.set_cons_succ])
  refine wl_nil ?_
  refine hK4 _ _ ?_
  (try clear hK4 K4)
  refine wp_seq_k (fun K6 hK6 => ?_)
  refine wl_region ?_
  refine wl_give rfl (g_assign _ (.int .i64 (0)) rfl ?_)
  (try simp only [Act.put, List.setIfInBounds_toArray, List.set_cons_zero, List.set_cons_succ])
  refine wl_nil ?_
  refine hK6 _ _ ?_
  (try clear hK6 K6)
  refine wp_ret ?_
  go_ret
  exact ⟨rfl, hM⟩
theorem rskip_any {w0 w : World} {R : List HP} {r n a : Nat} {s : Ky} (hM : Ms w0 w (blk r (rc s ((n : Nat) : Int) ((a : Nat) : Int)) 34 :: R)) (t : Int) (E : Int) (a' : Nat) (h : Shut (sk n a t = (E, a'))) : Calls Tryd.prog 18 #[.pointer (some ⟨r, 0, none⟩), .int .i64 t] w fun e w' => e = .returned (.int .i64 E) ∧ Ms w0 w' (blk r (rc s ((n : Nat) : Int) ((a' : Nat) : Int)) 34 :: R) := by
  have h := h.out
  unfold sk at h
  by_cases h1 : t < ((a : Nat) : Int)
  · rw [if_pos (.inl h1)] at h; cases h; exact rskip_lo hM t h1
  by_cases h2 : ((n : Nat) : Int) < t
  · rw [if_pos (.inr h2)] at h; cases h; exact rskip_hi hM t h1 h2
  rw [if_neg (fun x => x.elim h1 h2)] at h; cases h
  obtain ⟨u, rfl⟩ : ∃ u : Nat, t = ((u : Nat) : Int) := ⟨t.toNat, by omega⟩
  rw [Int.toNat_natCast]
  exact rskip_go hM u h1 h2
end Go.Proofs.YtdfpnicpcndkjaaDoor
