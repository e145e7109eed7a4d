/- What keys are reckoned to, the reference's Key and Most, and the program's New; nothing that was there is changed. -/
import Derived.Test.YtcclcemdodoiiaaGreatDoorQPbOps
import Derived.WalkKit
import Derived.WalkSpells
import Derived.WalkLawsBesides
namespace Go.Proofs.YtcclcemdodoiiaaGreatDoor
set_option maxRecDepth 10000
open Go Go.RowKit
set_option linter.unusedVariables false
set_option linter.unusedSimpArgs false

theorem kc_tg (k : Ky) (t : ByteArray) : kc (tg k t) = bc (tag k.l t.data.toList) := by simp only [kc, tg]
theorem kc_sm (k : Ky) : kc (sm k) = bc (sum k.l) := by simp only [kc, sm]
theorem swalk_any (k K : Ky) (d : Int) (w : World) (hT : Tabs w) (hK : Shut (wl (min d 4096).toNat k = K)) : Calls Tryz.prog 90 #[.agg (kc k).toArray, .int .i64 d] w fun e w' => e = .returned (.agg (kc K).toArray) ∧ Below w.heap.size w w' := by
  have h := walk_min k.l d (min d 4096) k.len w hT rfl
  rw [← hK.out]; exact h
theorem mof_any (k K : Ky) (t : ByteArray) (w : World) (hT : Tabs w) (ht : t.size ≤ 300) (hK : Shut (tg k t = K)) : Calls Tryz.prog 71 #[.agg (kc k).toArray, .string t] w fun e w' => e = .returned (.agg (kc K).toArray) ∧ Below w.heap.size w w' := by
  have h := of_any k.l k.len t (Nat.le_trans ht (by decide)) w hT
  rw [← hK.out, kc_tg]; exact h
theorem mrof_any (k K : Ky) (t : ByteArray) (w : World) (ht : t.size ≤ 300) (hK : Shut (tg k t = K)) : Calls Tryz.prog 58 #[.agg (kc k).toArray, .string t] w fun e w' => e = .returned (.agg (kc K).toArray) ∧ Below w.heap.size w w' := by
  have h := rof_any k.l k.len t (Nat.le_trans ht (by decide)) w
  rw [← hK.out, kc_tg]; exact h
theorem rsm_any (k K : Ky) (w : World) (hK : Shut (sm k = K)) : Calls Tryz.prog 59 #[.string ⟨k.l.toArray⟩] w fun e w' => e = .returned (.agg (kc K).toArray) ∧ Below w.heap.size w w' := by
  have h := rsum_d ⟨k.l.toArray⟩ (by show k.l.toArray.size ≤ _; simp [k.len]) (sum k.l) rfl w
  rw [← hK.out, kc_sm]; exact h
theorem wrap_id (n : Int) (h1 : -9223372036854775808 ≤ n) (h2 : n ≤ 9223372036854775807) : IntKind.i64.wrap n = n := by rw [IntKind.wrap_i64]; omega
set_option maxHeartbeats 4000000 in
theorem rkey_1 (s : Ky) (n i : Int) (w : World)  (h1 : n < 1) : Calls Tryz.prog 29 #[.agg (kc s).toArray, .int .i64 n, .int .i64 i] w fun e w' => e = .returned (.tuple #[.agg (kc zk).toArray, .int .i64 1]) ∧ Below w.heap.size w w' := by
  have hM := Ms.refl w
  go_enter Tryz.func29, Tryz.ntmps29
  refine wp_seq_k (fun K1 hK1 => ?_)
  refine wl_region ?_
  refine wl_give rfl (g_box 23 _ (kc (s)) rfl ?_)
  intro w2 t_ b_
  replace hM : Ms w w2 [blk (w.heap.size) (kc (s)) 23] := hM.new t_ b_
  clear t_ b_
  (try simp only [Act.put, st_a, st_0, st_s])
  refine wl_give rfl (g_alloc 23 (kc (zk)) zeroK ?_)
  intro w3 t_ b_
  replace hM : Ms w w3 [blk (w2.heap.size) (kc (zk)) 23, blk (w.heap.size) (kc (s)) 23] := hM.new t_ b_
  clear t_ b_
  (try simp only [Act.put, st_a, st_0, st_s])
  refine wl_give rfl (g_assign _ (.int .i64 (0)) rfl ?_)
  (try simp only [Act.put, st_a, st_0, st_s])
  refine wl_nil ?_
  refine hK1 _ _ ?_
  (try clear hK1 K1)
  refine wp_seq_k (fun K4 hK4 => ?_)
  refine wp_seq_k (fun K5 hK5 => ?_)
  refine wl_region ?_
  refine wl_give rfl (g_move _ (.int .i64 (n)) rfl ?_)
  (try simp only [Act.put, st_a, st_0, st_s])
  refine wl_give rfl (g_ilss 3 _ _ .i64 (n) (1) true rfl rfl (decide_eq_true h1) ?_)
  (try simp only [Act.put, st_a, st_0, st_s])
  refine wl_give rfl (g_move _ (.bool true) rfl ?_)
  (try simp only [Act.put, st_a, st_0, st_s])
  refine wl_skip rfl ?_
  (try simp only [Act.put, st_a, st_0, st_s])
  refine wl_skip rfl ?_
  (try simp only [Act.put, st_a, st_0, st_s])
  refine wl_give rfl (g_pickt _ _ _ (.bool true) rfl rfl ?_)
  (try simp only [Act.put, st_a, st_0, st_s])
  refine wl_give rfl (g_move _ (.bool true) rfl ?_)
  (try simp only [Act.put, st_a, st_0, st_s])
  refine wl_skip rfl ?_
  (try simp only [Act.put, st_a, st_0, st_s])
  refine wl_skip rfl ?_
  (try simp only [Act.put, st_a, st_0, st_s])
  refine wl_give rfl (g_pickt _ _ _ (.bool true) rfl rfl ?_)
  (try simp only [Act.put, st_a, st_0, st_s])
  refine wl_give rfl (g_move _ (.bool true) rfl ?_)
  (try simp only [Act.put, st_a, st_0, st_s])
  refine wl_skip rfl ?_
  (try simp only [Act.put, st_a, st_0, st_s])
  refine wl_skip rfl ?_
  (try simp only [Act.put, st_a, st_0, st_s])
  refine wl_skip rfl ?_
  (try simp only [Act.put, st_a, st_0, st_s])
  refine wl_give rfl (g_pickt _ _ _ (.bool true) rfl rfl ?_)
  (try simp only [Act.put, st_a, st_0, st_s])
  refine wl_nil ?_
  refine hK5 _ _ ?_
  (try clear hK5 K5)
  refine wp_cond_true rfl ?_
  refine wp_seq_k (fun K6 hK6 => ?_)
  refine wl_region ?_
  refine wl_give rfl (g_bldK0 ?_)
  (try simp only [Act.put, st_a, st_0, st_s])
  refine wl_give rfl (g_store_all 23 _ _ (w2.heap.size) (kc (zk)) _ 23 rfl rfl (hM.get 0 rfl) (szK _) (kk_len _ _) (one_kc _) ?_)
  intro w7 t_ b_
  replace hM : Ms w w7 [blk (w2.heap.size) (kc (zk)) 23, blk (w.heap.size) (kc (s)) 23] := hM.put 0 rfl t_ b_
  clear t_ b_
  (try simp only [Act.put, st_a, st_0, st_s])
  refine wl_give rfl (g_assign _ (.int .i64 (1)) rfl ?_)
  (try simp only [Act.put, st_a, st_0, st_s])
  refine wl_nil ?_
  refine hK6 _ _ ?_
  (try clear hK6 K6)
  refine wp_ret ?_
  (try simp only [Exit.inBlock, Exit.then])
  exact bodyPost_ret (results_blk_tmp rfl _ (kc (zk)) (.int .i64 (1)) _ rfl rfl (hM.get 0 rfl) Tryz.underlying23 rfl (szK _)) rfl ⟨rfl, hM.below⟩
set_option maxHeartbeats 4000000 in
theorem rkey_2 (s : Ky) (n i : Int) (w : World) (h1 : ¬ n < 1) (h2 : 1024 < n) : Calls Tryz.prog 29 #[.agg (kc s).toArray, .int .i64 n, .int .i64 i] w fun e w' => e = .returned (.tuple #[.agg (kc zk).toArray, .int .i64 1]) ∧ Below w.heap.size w w' := by
  have hM := Ms.refl w
  go_enter Tryz.func29, Tryz.ntmps29
  refine wp_seq_k (fun K1 hK1 => ?_)
  refine wl_region ?_
  refine wl_give rfl (g_box 23 _ (kc (s)) rfl ?_)
  intro w2 t_ b_
  replace hM : Ms w w2 [blk (w.heap.size) (kc (s)) 23] := hM.new t_ b_
  clear t_ b_
  (try simp only [Act.put, st_a, st_0, st_s])
  refine wl_give rfl (g_alloc 23 (kc (zk)) zeroK ?_)
  intro w3 t_ b_
  replace hM : Ms w w3 [blk (w2.heap.size) (kc (zk)) 23, blk (w.heap.size) (kc (s)) 23] := hM.new t_ b_
  clear t_ b_
  (try simp only [Act.put, st_a, st_0, st_s])
  refine wl_give rfl (g_assign _ (.int .i64 (0)) rfl ?_)
  (try simp only [Act.put, st_a, st_0, st_s])
  refine wl_nil ?_
  refine hK1 _ _ ?_
  (try clear hK1 K1)
  refine wp_seq_k (fun K4 hK4 => ?_)
  refine wp_seq_k (fun K5 hK5 => ?_)
  refine wl_region ?_
  refine wl_give rfl (g_move _ (.int .i64 (n)) rfl ?_)
  (try simp only [Act.put, st_a, st_0, st_s])
  refine wl_give rfl (g_ilss 3 _ _ .i64 (n) (1) false rfl rfl (decide_eq_false h1) ?_)
  (try simp only [Act.put, st_a, st_0, st_s])
  refine wl_give rfl (g_move _ (.bool false) rfl ?_)
  (try simp only [Act.put, st_a, st_0, st_s])
  refine wl_give rfl (g_move _ (.int .i64 (n)) rfl ?_)
  (try simp only [Act.put, st_a, st_0, st_s])
  refine wl_give rfl (g_igtr 3 _ _ .i64 (n) (1024) true rfl rfl (decide_eq_true h2) ?_)
  (try simp only [Act.put, st_a, st_0, st_s])
  refine wl_give rfl (g_pickf _ _ _ (.bool true) rfl rfl ?_)
  (try simp only [Act.put, st_a, st_0, st_s])
  refine wl_give rfl (g_move _ (.bool true) rfl ?_)
  (try simp only [Act.put, st_a, st_0, st_s])
  refine wl_skip rfl ?_
  (try simp only [Act.put, st_a, st_0, st_s])
  refine wl_skip rfl ?_
  (try simp only [Act.put, st_a, st_0, st_s])
  refine wl_give rfl (g_pickt _ _ _ (.bool true) rfl rfl ?_)
  (try simp only [Act.put, st_a, st_0, st_s])
  refine wl_give rfl (g_move _ (.bool true) rfl ?_)
  (try simp only [Act.put, st_a, st_0, st_s])
  refine wl_skip rfl ?_
  (try simp only [Act.put, st_a, st_0, st_s])
  refine wl_skip rfl ?_
  (try simp only [Act.put, st_a, st_0, st_s])
  refine wl_skip rfl ?_
  (try simp only [Act.put, st_a, st_0, st_s])
  refine wl_give rfl (g_pickt _ _ _ (.bool true) rfl rfl ?_)
  (try simp only [Act.put, st_a, st_0, st_s])
  refine wl_nil ?_
  refine hK5 _ _ ?_
  (try clear hK5 K5)
  refine wp_cond_true rfl ?_
  refine wp_seq_k (fun K6 hK6 => ?_)
  refine wl_region ?_
  refine wl_give rfl (g_bldK0 ?_)
  (try simp only [Act.put, st_a, st_0, st_s])
  refine wl_give rfl (g_store_all 23 _ _ (w2.heap.size) (kc (zk)) _ 23 rfl rfl (hM.get 0 rfl) (szK _) (kk_len _ _) (one_kc _) ?_)
  intro w7 t_ b_
  replace hM : Ms w w7 [blk (w2.heap.size) (kc (zk)) 23, blk (w.heap.size) (kc (s)) 23] := hM.put 0 rfl t_ b_
  clear t_ b_
  (try simp only [Act.put, st_a, st_0, st_s])
  refine wl_give rfl (g_assign _ (.int .i64 (1)) rfl ?_)
  (try simp only [Act.put, st_a, st_0, st_s])
  refine wl_nil ?_
  refine hK6 _ _ ?_
  (try clear hK6 K6)
  refine wp_ret ?_
  (try simp only [Exit.inBlock, Exit.then])
  exact bodyPost_ret (results_blk_tmp rfl _ (kc (zk)) (.int .i64 (1)) _ rfl rfl (hM.get 0 rfl) Tryz.underlying23 rfl (szK _)) rfl ⟨rfl, hM.below⟩
set_option maxHeartbeats 4000000 in
theorem rkey_3 (s : Ky) (n i : Int) (w : World) (h1 : ¬ n < 1) (h2 : ¬ 1024 < n) (h3 : i < 0) : Calls Tryz.prog 29 #[.agg (kc s).toArray, .int .i64 n, .int .i64 i] w fun e w' => e = .returned (.tuple #[.agg (kc zk).toArray, .int .i64 1]) ∧ Below w.heap.size w w' := by
  have hM := Ms.refl w
  go_enter Tryz.func29, Tryz.ntmps29
  refine wp_seq_k (fun K1 hK1 => ?_)
  refine wl_region ?_
  refine wl_give rfl (g_box 23 _ (kc (s)) rfl ?_)
  intro w2 t_ b_
  replace hM : Ms w w2 [blk (w.heap.size) (kc (s)) 23] := hM.new t_ b_
  clear t_ b_
  (try simp only [Act.put, st_a, st_0, st_s])
  refine wl_give rfl (g_alloc 23 (kc (zk)) zeroK ?_)
  intro w3 t_ b_
  replace hM : Ms w w3 [blk (w2.heap.size) (kc (zk)) 23, blk (w.heap.size) (kc (s)) 23] := hM.new t_ b_
  clear t_ b_
  (try simp only [Act.put, st_a, st_0, st_s])
  refine wl_give rfl (g_assign _ (.int .i64 (0)) rfl ?_)
  (try simp only [Act.put, st_a, st_0, st_s])
  refine wl_nil ?_
  refine hK1 _ _ ?_
  (try clear hK1 K1)
  refine wp_seq_k (fun K4 hK4 => ?_)
  refine wp_seq_k (fun K5 hK5 => ?_)
  refine wl_region ?_
  refine wl_give rfl (g_move _ (.int .i64 (n)) rfl ?_)
  (try simp only [Act.put, st_a, st_0, st_s])
  refine wl_give rfl (g_ilss 3 _ _ .i64 (n) (1) false rfl rfl (decide_eq_false h1) ?_)
  (try simp only [Act.put, st_a, st_0, st_s])
  refine wl_give rfl (g_move _ (.bool false) rfl ?_)
  (try simp only [Act.put, st_a, st_0, st_s])
  refine wl_give rfl (g_move _ (.int .i64 (n)) rfl ?_)
  (try simp only [Act.put, st_a, st_0, st_s])
  refine wl_give rfl (g_igtr 3 _ _ .i64 (n) (1024) false rfl rfl (decide_eq_false h2) ?_)
  (try simp only [Act.put, st_a, st_0, st_s])
  refine wl_give rfl (g_pickf _ _ _ (.bool false) rfl rfl ?_)
  (try simp only [Act.put, st_a, st_0, st_s])
  refine wl_give rfl (g_move _ (.bool false) rfl ?_)
  (try simp only [Act.put, st_a, st_0, st_s])
  refine wl_give rfl (g_move _ (.int .i64 (i)) rfl ?_)
  (try simp only [Act.put, st_a, st_0, st_s])
  refine wl_give rfl (g_ilss 3 _ _ .i64 (i) (0) true rfl rfl (decide_eq_true h3) ?_)
  (try simp only [Act.put, st_a, st_0, st_s])
  refine wl_give rfl (g_pickf _ _ _ (.bool true) rfl rfl ?_)
  (try simp only [Act.put, st_a, st_0, st_s])
  refine wl_give rfl (g_move _ (.bool true) rfl ?_)
  (try simp only [Act.put, st_a, st_0, st_s])
  refine wl_skip rfl ?_
  (try simp only [Act.put, st_a, st_0, st_s])
  refine wl_skip rfl ?_
  (try simp only [Act.put, st_a, st_0, st_s])
  refine wl_skip rfl ?_
  (try simp only [Act.put, st_a, st_0, st_s])
  refine wl_give rfl (g_pickt _ _ _ (.bool true) rfl rfl ?_)
  (try simp only [Act.put, st_a, st_0, st_s])
  refine wl_nil ?_
  refine hK5 _ _ ?_
  (try clear hK5 K5)
  refine wp_cond_true rfl ?_
  refine wp_seq_k (fun K6 hK6 => ?_)
  refine wl_region ?_
  refine wl_give rfl (g_bldK0 ?_)
  (try simp only [Act.put, st_a, st_0, st_s])
  refine wl_give rfl (g_store_all 23 _ _ (w2.heap.size) (kc (zk)) _ 23 rfl rfl (hM.get 0 rfl) (szK _) (kk_len _ _) (one_kc _) ?_)
  intro w7 t_ b_
  replace hM : Ms w w7 [blk (w2.heap.size) (kc (zk)) 23, blk (w.heap.size) (kc (s)) 23] := hM.put 0 rfl t_ b_
  clear t_ b_
  (try simp only [Act.put, st_a, st_0, st_s])
  refine wl_give rfl (g_assign _ (.int .i64 (1)) rfl ?_)
  (try simp only [Act.put, st_a, st_0, st_s])
  refine wl_nil ?_
  refine hK6 _ _ ?_
  (try clear hK6 K6)
  refine wp_ret ?_
  (try simp only [Exit.inBlock, Exit.then])
  exact bodyPost_ret (results_blk_tmp rfl _ (kc (zk)) (.int .i64 (1)) _ rfl rfl (hM.get 0 rfl) Tryz.underlying23 rfl (szK _)) rfl ⟨rfl, hM.below⟩
set_option maxHeartbeats 4000000 in
theorem rkey_4 (s : Ky) (n i : Int) (w : World) (h1 : ¬ n < 1) (h2 : ¬ 1024 < n) (h3 : ¬ i < 0) (h4 : n < i) : Calls Tryz.prog 29 #[.agg (kc s).toArray, .int .i64 n, .int .i64 i] w fun e w' => e = .returned (.tuple #[.agg (kc zk).toArray, .int .i64 1]) ∧ Below w.heap.size w w' := by
  have hM := Ms.refl w
  go_enter Tryz.func29, Tryz.ntmps29
  refine wp_seq_k (fun K1 hK1 => ?_)
  refine wl_region ?_
  refine wl_give rfl (g_box 23 _ (kc (s)) rfl ?_)
  intro w2 t_ b_
  replace hM : Ms w w2 [blk (w.heap.size) (kc (s)) 23] := hM.new t_ b_
  clear t_ b_
  (try simp only [Act.put, st_a, st_0, st_s])
  refine wl_give rfl (g_alloc 23 (kc (zk)) zeroK ?_)
  intro w3 t_ b_
  replace hM : Ms w w3 [blk (w2.heap.size) (kc (zk)) 23, blk (w.heap.size) (kc (s)) 23] := hM.new t_ b_
  clear t_ b_
  (try simp only [Act.put, st_a, st_0, st_s])
  refine wl_give rfl (g_assign _ (.int .i64 (0)) rfl ?_)
  (try simp only [Act.put, st_a, st_0, st_s])
  refine wl_nil ?_
  refine hK1 _ _ ?_
  (try clear hK1 K1)
  refine wp_seq_k (fun K4 hK4 => ?_)
  refine wp_seq_k (fun K5 hK5 => ?_)
  refine wl_region ?_
  refine wl_give rfl (g_move _ (.int .i64 (n)) rfl ?_)
  (try simp only [Act.put, st_a, st_0, st_s])
  refine wl_give rfl (g_ilss 3 _ _ .i64 (n) (1) false rfl rfl (decide_eq_false h1) ?_)
  (try simp only [Act.put, st_a, st_0, st_s])
  refine wl_give rfl (g_move _ (.bool false) rfl ?_)
  (try simp only [Act.put, st_a, st_0, st_s])
  refine wl_give rfl (g_move _ (.int .i64 (n)) rfl ?_)
  (try simp only [Act.put, st_a, st_0, st_s])
  refine wl_give rfl (g_igtr 3 _ _ .i64 (n) (1024) false rfl rfl (decide_eq_false h2) ?_)
  (try simp only [Act.put, st_a, st_0, st_s])
  refine wl_give rfl (g_pickf _ _ _ (.bool false) rfl rfl ?_)
  (try simp only [Act.put, st_a, st_0, st_s])
  refine wl_give rfl (g_move _ (.bool false) rfl ?_)
  (try simp only [Act.put, st_a, st_0, st_s])
  refine wl_give rfl (g_move _ (.int .i64 (i)) rfl ?_)
  (try simp only [Act.put, st_a, st_0, st_s])
  refine wl_give rfl (g_ilss 3 _ _ .i64 (i) (0) false rfl rfl (decide_eq_false h3) ?_)
  (try simp only [Act.put, st_a, st_0, st_s])
  refine wl_give rfl (g_pickf _ _ _ (.bool false) rfl rfl ?_)
  (try simp only [Act.put, st_a, st_0, st_s])
  refine wl_give rfl (g_move _ (.bool false) rfl ?_)
  (try simp only [Act.put, st_a, st_0, st_s])
  refine wl_give rfl (g_move _ (.int .i64 (i)) rfl ?_)
  (try simp only [Act.put, st_a, st_0, st_s])
  refine wl_give rfl (g_move _ (.int .i64 (n)) rfl ?_)
  (try simp only [Act.put, st_a, st_0, st_s])
  refine wl_give rfl (g_igtr 3 _ _ .i64 (i) (n) true rfl rfl (decide_eq_true h4) ?_)
  (try simp only [Act.put, st_a, st_0, st_s])
  refine wl_give rfl (g_pickf _ _ _ (.bool true) rfl rfl ?_)
  (try simp only [Act.put, st_a, st_0, st_s])
  refine wl_nil ?_
  refine hK5 _ _ ?_
  (try clear hK5 K5)
  refine wp_cond_true rfl ?_
  refine wp_seq_k (fun K6 hK6 => ?_)
  refine wl_region ?_
  refine wl_give rfl (g_bldK0 ?_)
  (try simp only [Act.put, st_a, st_0, st_s])
  refine wl_give rfl (g_store_all 23 _ _ (w2.heap.size) (kc (zk)) _ 23 rfl rfl (hM.get 0 rfl) (szK _) (kk_len _ _) (one_kc _) ?_)
  intro w7 t_ b_
  replace hM : Ms w w7 [blk (w2.heap.size) (kc (zk)) 23, blk (w.heap.size) (kc (s)) 23] := hM.put 0 rfl t_ b_
  clear t_ b_
  (try simp only [Act.put, st_a, st_0, st_s])
  refine wl_give rfl (g_assign _ (.int .i64 (1)) rfl ?_)
  (try simp only [Act.put, st_a, st_0, st_s])
  refine wl_nil ?_
  refine hK6 _ _ ?_
  (try clear hK6 K6)
  refine wp_ret ?_
  (try simp only [Exit.inBlock, Exit.then])
  exact bodyPost_ret (results_blk_tmp rfl _ (kc (zk)) (.int .i64 (1)) _ rfl rfl (hM.get 0 rfl) Tryz.underlying23 rfl (szK _)) rfl ⟨rfl, hM.below⟩
set_option maxHeartbeats 4000000 in
theorem rkey_5 (s : Ky) (n i : Int) (w : World) (L K : Ky) (h1 : ¬ n < 1) (h2 : ¬ 1024 < n) (h3 : ¬ i < 0) (h4 : ¬ n < i) (hL : Shut (tg s ⟨#[99, 104, 97, 105, 110]⟩ = L)) (hK : Shut (wl (n - i).toNat L = K)) : Calls Tryz.prog 29 #[.agg (kc s).toArray, .int .i64 n, .int .i64 i] w fun e w' => e = .returned (.tuple #[.agg (kc K).toArray, .int .i64 0]) ∧ Below w.heap.size w w' := by
  have hM := Ms.refl w
  go_enter Tryz.func29, Tryz.ntmps29
  refine wp_seq_k (fun K1 hK1 => ?_)
  refine wl_region ?_
  refine wl_give rfl (g_box 23 _ (kc (s)) rfl ?_)
  intro w2 t_ b_
  replace hM : Ms w w2 [blk (w.heap.size) (kc (s)) 23] := hM.new t_ b_
  clear t_ b_
  (try simp only [Act.put, st_a, st_0, st_s])
  refine wl_give rfl (g_alloc 23 (kc (zk)) zeroK ?_)
  intro w3 t_ b_
  replace hM : Ms w w3 [blk (w2.heap.size) (kc (zk)) 23, blk (w.heap.size) (kc (s)) 23] := hM.new t_ b_
  clear t_ b_
  (try simp only [Act.put, st_a, st_0, st_s])
  refine wl_give rfl (g_assign _ (.int .i64 (0)) rfl ?_)
  (try simp only [Act.put, st_a, st_0, st_s])
  refine wl_nil ?_
  refine hK1 _ _ ?_
  (try clear hK1 K1)
  refine wp_seq_k (fun K4 hK4 => ?_)
  refine wp_seq_k (fun K5 hK5 => ?_)
  refine wl_region ?_
  refine wl_give rfl (g_move _ (.int .i64 (n)) rfl ?_)
  (try simp only [Act.put, st_a, st_0, st_s])
  refine wl_give rfl (g_ilss 3 _ _ .i64 (n) (1) false rfl rfl (decide_eq_false h1) ?_)
  (try simp only [Act.put, st_a, st_0, st_s])
  refine wl_give rfl (g_move _ (.bool false) rfl ?_)
  (try simp only [Act.put, st_a, st_0, st_s])
  refine wl_give rfl (g_move _ (.int .i64 (n)) rfl ?_)
  (try simp only [Act.put, st_a, st_0, st_s])
  refine wl_give rfl (g_igtr 3 _ _ .i64 (n) (1024) false rfl rfl (decide_eq_false h2) ?_)
  (try simp only [Act.put, st_a, st_0, st_s])
  refine wl_give rfl (g_pickf _ _ _ (.bool false) rfl rfl ?_)
  (try simp only [Act.put, st_a, st_0, st_s])
  refine wl_give rfl (g_move _ (.bool false) rfl ?_)
  (try simp only [Act.put, st_a, st_0, st_s])
  refine wl_give rfl (g_move _ (.int .i64 (i)) rfl ?_)
  (try simp only [Act.put, st_a, st_0, st_s])
  refine wl_give rfl (g_ilss 3 _ _ .i64 (i) (0) false rfl rfl (decide_eq_false h3) ?_)
  (try simp only [Act.put, st_a, st_0, st_s])
  refine wl_give rfl (g_pickf _ _ _ (.bool false) rfl rfl ?_)
  (try simp only [Act.put, st_a, st_0, st_s])
  refine wl_give rfl (g_move _ (.bool false) rfl ?_)
  (try simp only [Act.put, st_a, st_0, st_s])
  refine wl_give rfl (g_move _ (.int .i64 (i)) rfl ?_)
  (try simp only [Act.put, st_a, st_0, st_s])
  refine wl_give rfl (g_move _ (.int .i64 (n)) rfl ?_)
  (try simp only [Act.put, st_a, st_0, st_s])
  refine wl_give rfl (g_igtr 3 _ _ .i64 (i) (n) false rfl rfl (decide_eq_false h4) ?_)
  (try simp only [Act.put, st_a, st_0, st_s])
  refine wl_give rfl (g_pickf _ _ _ (.bool false) rfl rfl ?_)
  (try simp only [Act.put, st_a, st_0, st_s])
  refine wl_nil ?_
  refine hK5 _ _ ?_
  (try clear hK5 K5)
  refine wp_cond_false rfl ?_
  refine wp_skip ?_
  refine hK4 _ _ ?_
  (try clear hK4 K4)
  refine wp_seq_k (fun K6 hK6 => ?_)
  refine wl_region ?_
  refine wl_give rfl (g_load_all 23 _ (w.heap.size) (kc (s)) 23 _ rfl (hM.get 1 rfl) Tryz.underlying23 rfl (szK _) ?_)
  (try simp only [Act.put, st_a, st_0, st_s])
  refine wl_give rfl (g_call 58 _ _ [.agg (kc (s)).toArray, .string (⟨#[99, 104, 97, 105, 110]⟩)] (kf58 _ _) rfl ((mrof_any s L ⟨#[99, 104, 97, 105, 110]⟩ w3 (by decide) hL).mono ?_))
  rintro e w7 ⟨rfl, t_⟩
  refine ⟨_, rfl, ?_⟩
  replace hM := hM.call t_
  clear t_
  (try simp only [Act.put, st_a, st_0, st_s])
  refine wl_give rfl (g_alloc 23 (kc (zk)) zeroK ?_)
  intro w8 t_ b_
  replace hM : Ms w w8 [blk (w7.heap.size) (kc (zk)) 23, blk (w2.heap.size) (kc (zk)) 23, blk (w.heap.size) (kc (s)) 23] := hM.new t_ b_
  clear t_ b_
  (try simp only [Act.put, st_a, st_0, st_s])
  refine wl_give rfl (g_store_all 23 _ _ (w7.heap.size) (kc (L)) _ 23 rfl rfl (hM.get 0 rfl) (szK _) (kk_len _ _) (one_kc _) ?_)
  intro w9 t_ b_
  replace hM : Ms w w9 [blk (w7.heap.size) (kc (L)) 23, blk (w2.heap.size) (kc (zk)) 23, blk (w.heap.size) (kc (s)) 23] := hM.put 0 rfl t_ b_
  clear t_ b_
  (try simp only [Act.put, st_a, st_0, st_s])
  refine wl_nil ?_
  refine hK6 _ _ ?_
  (try clear hK6 K6)
  refine wp_seq_k (fun K10 hK10 => ?_)
  refine wp_seq_k (fun K11 hK11 => ?_)
  refine wl_region ?_
  refine wl_give rfl (g_move _ (.int .i64 (n)) rfl ?_)
  (try simp only [Act.put, st_a, st_0, st_s])
  refine wl_give rfl (g_assign _ (.int .i64 (n)) rfl ?_)
  (try simp only [Act.put, st_a, st_0, st_s])
  refine wl_nil ?_
  refine hK11 _ _ ?_
  (try clear hK11 K11)
  refine wp_block ?_
  go_loopw [9] (fun v wr => ∃ (j : Nat) (x : Int), Shut ((j : Int) + x = n) ∧ i ≤ x ∧ v = .int .i64 x ∧ Ms w wr [blk (w7.heap.size) (kc (wl j L)) 23, blk (w2.heap.size) (kc (zk)) 23, blk (w.heap.size) (kc (s)) 23]) (fun v _ => (intOf v - i).toNat)
  case atStart => exact ⟨0, n, ⟨by omega⟩, by omega, rfl, by rw [wl_zero]; exact hM⟩
  case round =>
    clear hM
    obtain ⟨j, x, hj, hx, rfl, hM⟩ := hrel
    obtain ⟨X, hX⟩ : ∃ X, wl j L = X := ⟨_, rfl⟩
    rw [hX] at hM
    by_cases hlt : i < x
    · obtain ⟨Y, hY⟩ : ∃ Y, sm X = Y := ⟨_, rfl⟩
      have HY : Shut (sm X = Y) := ⟨hY⟩
      have HN : Shut (wl (j + 1) L = Y) := ⟨by rw [wl_succ, hX, hY]⟩
      have hs : Shut (IntKind.i64.wrap (x - 1) = x - 1) := ⟨by rw [IntKind.wrap_i64]; have := hj.out; omega⟩
      clear hX hY
      refine wp_seq_k (fun K12 hK12 => ?_)
      refine wp_seq_k (fun K13 hK13 => ?_)
      refine wl_region ?_
      refine wl_give rfl (g_move _ (.int .i64 (x)) rfl ?_)
      (try simp only [Act.put, st_a, st_0, st_s])
      refine wl_give rfl (g_move _ (.int .i64 (i)) rfl ?_)
      (try simp only [Act.put, st_a, st_0, st_s])
      refine wl_give rfl (g_igtr 3 _ _ .i64 (x) (i) true rfl rfl (decide_eq_true hlt) ?_)
      (try simp only [Act.put, st_a, st_0, st_s])
      refine wl_nil ?_
      refine hK13 _ _ ?_
      (try clear hK13 K13)
      refine wp_cond_true rfl ?_
      refine wp_skip ?_
      refine hK12 _ _ ?_
      (try clear hK12 K12)
      refine wp_seq_k (fun K14 hK14 => ?_)
      refine wp_block ?_
      refine wl_region ?_
      refine wl_give rfl (g_slK _ (w7.heap.size) rfl ?_)
      (try simp only [Act.put, st_a, st_0, st_s])
      refine wl_give rfl (g_strK _ (w7.heap.size) (X) 23 rfl (hM.get 0 rfl) ?_)
      (try simp only [Act.put, st_a, st_0, st_s])
      refine wl_give rfl (g_call 59 _ _ [.string (⟨(X).l.toArray⟩)] (kf59 _ _) rfl ((rsm_any X Y wr HY).mono ?_))
      rintro e w15 ⟨rfl, t_⟩
      refine ⟨_, rfl, ?_⟩
      replace hM := hM.call t_
      clear t_
      (try simp only [Act.put, st_a, st_0, st_s])
      refine wl_give rfl (g_store_all 23 _ _ (w7.heap.size) (kc (Y)) _ 23 rfl rfl (hM.get 0 rfl) (szK _) (kk_len _ _) (one_kc _) ?_)
      intro w16 t_ b_
      replace hM : Ms w w16 [blk (w7.heap.size) (kc (Y)) 23, blk (w2.heap.size) (kc (zk)) 23, blk (w.heap.size) (kc (s)) 23] := hM.put 0 rfl t_ b_
      clear t_ b_
      (try simp only [Act.put, st_a, st_0, st_s])
      refine wl_nil ?_
      refine hK14 _ _ ?_
      (try clear hK14 K14)
      refine wl_region ?_
      refine wl_give rfl (g_move _ (.int .i64 (x)) rfl ?_)
      (try simp only [Act.put, st_a, st_0, st_s])
      refine wl_give rfl (g_isub 3 _ _ .i64 (x) (1) (x - 1) rfl rfl (hs.out) ?_)
      (try simp only [Act.put, st_a, st_0, st_s])
      refine wl_give rfl (g_assign _ (.int .i64 (x - 1)) rfl ?_)
      (try simp only [Act.put, st_a, st_0, st_s])
      refine wl_nil ?_
      (try simp only [Exit.then, Exit.inBlock, ↓reduceIte, Nat.reduceEqDiff])
      go_roundw
      case rel => exact ⟨j + 1, x - 1, ⟨by have := hj.out; omega⟩, by omega, rfl, by rw [HN.out]; exact hM⟩
      case measure => simp [intOf]; omega
    · have hjd : X = K := by rw [← hX, ← hK.out]; congr 1; have := hj.out; omega
      subst hjd
      clear hX
      refine wp_seq_k (fun K17 hK17 => ?_)
      refine wp_seq_k (fun K18 hK18 => ?_)
      refine wl_region ?_
      refine wl_give rfl (g_move _ (.int .i64 (x)) rfl ?_)
      (try simp only [Act.put, st_a, st_0, st_s])
      refine wl_give rfl (g_move _ (.int .i64 (i)) rfl ?_)
      (try simp only [Act.put, st_a, st_0, st_s])
      refine wl_give rfl (g_igtr 3 _ _ .i64 (x) (i) false rfl rfl (decide_eq_false hlt) ?_)
      (try simp only [Act.put, st_a, st_0, st_s])
      refine wl_nil ?_
      refine hK18 _ _ ?_
      (try clear hK18 K18)
      refine wp_cond_false rfl ?_
      refine wp_exit ?_
      refine hK10 _ _ ?_
      (try clear hK10 K10)
      refine wp_seq_k (fun K19 hK19 => ?_)
      refine wl_region ?_
      refine wl_give rfl (g_load_all 23 _ (w7.heap.size) (kc (X)) 23 _ rfl (hM.get 0 rfl) Tryz.underlying23 rfl (szK _) ?_)
      (try simp only [Act.put, st_a, st_0, st_s])
      refine wl_give rfl (g_store_all 23 _ _ (w2.heap.size) (kc (X)) _ 23 rfl rfl (hM.get 1 rfl) (szK _) (kk_len _ _) (one_kc _) ?_)
      intro w20 t_ b_
      replace hM : Ms w w20 [blk (w7.heap.size) (kc (X)) 23, blk (w2.heap.size) (kc (X)) 23, blk (w.heap.size) (kc (s)) 23] := hM.put 1 rfl t_ b_
      clear t_ b_
      (try simp only [Act.put, st_a, st_0, st_s])
      refine wl_give rfl (g_assign _ (.int .i64 (0)) rfl ?_)
      (try simp only [Act.put, st_a, st_0, st_s])
      refine wl_nil ?_
      refine hK19 _ _ ?_
      (try clear hK19 K19)
      refine wp_ret ?_
      (try simp only [Exit.inBlock, Exit.then])
      exact bodyPost_ret (results_blk_tmp rfl _ (kc (X)) (.int .i64 (0)) _ rfl rfl (hM.get 1 rfl) Tryz.underlying23 rfl (szK _)) rfl ⟨rfl, hM.below⟩
theorem rckey_any (s : Ky) (n i : Int) (w : World) (K : Ky) (E : Int) (h : Shut (ky s n i = (K, E))) : Calls Tryz.prog 29 #[.agg (kc s).toArray, .int .i64 n, .int .i64 i] w fun e w' => e = .returned (.tuple #[.agg (kc K).toArray, .int .i64 E]) ∧ Below w.heap.size w w' := by
  have h := h.out
  unfold ky at h
  by_cases h1 : n < 1
  · rw [if_pos (.inl h1)] at h; cases h; exact rkey_1 s n i w h1
  by_cases h2 : 1024 < n
  · rw [if_pos (.inr h2)] at h; cases h; exact rkey_2 s n i w h1 h2
  rw [if_neg (fun h3 => h3.elim h1 h2)] at h
  unfold tl at h
  by_cases h3 : i < 0
  · rw [if_pos (.inl h3)] at h; cases h; exact rkey_3 s n i w h1 h2 h3
  by_cases h4 : n < i
  · rw [if_pos (.inr h4)] at h; cases h; exact rkey_4 s n i w h1 h2 h3 h4
  rw [if_neg (fun h5 => h5.elim h3 h4)] at h
  cases h
  exact rkey_5 s n i w _ _ h1 h2 h3 h4 ⟨rfl⟩ ⟨by rw [show (min (n - i) 4096) = n - i by omega]; rfl⟩
end Go.Proofs.YtcclcemdodoiiaaGreatDoor
