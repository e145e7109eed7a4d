/- What the reference's Send and Renew answer, and what they do to its sender: as the program's do. -/
import Derived.Test.YtphocklnhoakcaaDoorSd1
import Derived.Test.YtphocklnhoakcaaDoorPl3
import Derived.WalkKit
import Derived.WalkSpells
import Derived.WalkLawsBesides
namespace Go.Proofs.YtphocklnhoakcaaDoor
set_option maxRecDepth 10000
open Go Go.RowKit
set_option linter.unusedVariables false
set_option linter.unusedSimpArgs false

set_option maxHeartbeats 4000000 in
theorem rsend_e {w0 w : World} {R : List HP} {p : Nat} {s : Ky} {P : Pl} {l t : Int} (x : ByteArray) (J E : Int) (hM : Ms w0 w (blk p (rsc s P (l)) 36 :: R)) (hP : POk P) (hl0 : 0 ≤ l) (hl1 : l ≤ P.ct) (hpat : Shut (pat P t = (J, E))) (hE : E ≠ 0) : Calls Tryd.prog 16 #[.pointer (some ⟨p, 0, none⟩), .int .i64 t, .string x] w fun e w' => e = .returned (.tuple #[.agg (pkc 0 ⟨#[]⟩ ⟨#[]⟩ 0 zk).toArray, .int .i64 E]) ∧ Ms w0 w' (blk p (rsc s P (l)) 36 :: R) := by
  go_enter Tryd.func16, Tryd.ntmps16
  refine wp_seq_k (fun K1 hK1 => ?_)
  refine wl_region ?_
  refine wl_give rfl (g_alloc 44 (pkc (0) (⟨#[]⟩) (⟨#[]⟩) (0) (zk)) zeroPk ?_)
  intro w2 t_ b_
  replace hM := hM.new t_ b_
  clear t_ b_
  (try simp only [Act.put, st_a, st_0, st_s])
  refine wl_give rfl (g_assign _ (.int .i64 (0)) rfl ?_)
  (try simp only [Act.put, st_a, st_0, st_s])
  refine wl_nil ?_
  refine hK1 _ _ ?_
  (try clear hK1 K1)
  refine wp_seq_k (fun K3 hK3 => ?_)
  refine wl_region ?_
  refine wl_give rfl (g_move _ (.pointer (some ⟨p, 0, none⟩)) rfl ?_)
  (try simp only [Act.put, st_a, st_0, st_s])
  refine wl_give rfl (g_nil _ ⟨p, 0, none⟩ rfl ?_)
  (try simp only [Act.put, st_a, st_0, st_s])
  refine wl_give rfl (g_fa 36 _ (p) (0) (32) 1 rfl (faRs1 _ _ _) ?_)
  (try simp only [Act.put, st_a, st_0, st_s])
  refine wl_give rfl (g_load 34 _ (p) (32) 4 _ 36 _ rfl (hM.get 1 rfl) Tryd.underlying34 rfl sizeRP (by rw [rsc_length]; decide) (plc (P)) (rs_plan _ _ _) ?_)
  (try simp only [Act.put, st_a, st_0, st_s])
  refine wl_give rfl (g_move _ (.int .i64 (t)) rfl ?_)
  (try simp only [Act.put, st_a, st_0, st_s])
  refine wl_give rfl (g_call 34 _ _ [.agg (plc (P)).toArray, .int .i64 (t)] (kf34 _ _) rfl ((rat_any P t w2 (J) (E) hpat).mono ?_))
  rintro e w4 ⟨rfl, t_⟩
  refine ⟨_, rfl, ?_⟩
  replace hM := hM.call t_
  clear t_
  (try simp only [Act.put, st_a, st_0, st_s])
  refine wl_give rfl (g_move _ (.tuple #[.int .i64 (J), .int .i64 (E)]) rfl ?_)
  (try simp only [Act.put, st_a, st_0, st_s])
  refine wl_give rfl (g_extract _ #[.int .i64 (J), .int .i64 (E)] 0 (.int .i64 (J)) rfl rfl ?_)
  (try simp only [Act.put, st_a, st_0, st_s])
  refine wl_give rfl (g_extract _ #[.int .i64 (J), .int .i64 (E)] 1 (.int .i64 (E)) rfl rfl ?_)
  (try simp only [Act.put, st_a, st_0, st_s])
  refine wl_give rfl (g_assign _ (.int .i64 (J)) rfl ?_)
  (try simp only [Act.put, st_a, st_0, st_s])
  refine wl_give rfl (g_assign _ (.int .i64 (E)) rfl ?_)
  (try simp only [Act.put, st_a, st_0, st_s])
  refine wl_nil ?_
  refine hK3 _ _ ?_
  (try clear hK3 K3)
  refine wp_seq_k (fun K5 hK5 => ?_)
  refine wp_seq_k (fun K6 hK6 => ?_)
  refine wl_region ?_
  refine wl_give rfl (g_move _ (.int .i64 (E)) rfl ?_)
  (try simp only [Act.put, st_a, st_0, st_s])
  refine wl_give rfl (g_ine 29 _ _ .i64 (E) (0) true rfl rfl (decide_eq_true hE) ?_)
  (try simp only [Act.put, st_a, st_0, st_s])
  refine wl_nil ?_
  refine hK6 _ _ ?_
  (try clear hK6 K6)
  refine wp_cond_true rfl ?_
  refine wp_seq_k (fun K7 hK7 => ?_)
  refine wl_region ?_
  refine wl_give rfl (g_bldPk0 ?_)
  (try simp only [Act.put, st_a, st_0, st_s])
  refine wl_give rfl (g_move _ (.int .i64 (E)) rfl ?_)
  (try simp only [Act.put, st_a, st_0, st_s])
  refine wl_give rfl (g_store_all 44 _ _ (w.heap.size) (pkc (0) (⟨#[]⟩) (⟨#[]⟩) (0) (zk)) _ 44 rfl rfl (hM.get 0 rfl) (szPk _ _ _ _ _) (kk2_len _ _ _ _ _ _ _ _ _ _) (one_pkc _ _ _ _ _) ?_)
  intro w8 t_ b_
  replace hM : Ms w0 w8 (blk (w.heap.size) (pkc (0) (⟨#[]⟩) (⟨#[]⟩) (0) (zk)) 44 :: blk (p) (rsc (s) (P) (l)) 36 :: R) := hM.put 0 rfl t_ b_
  clear t_ b_
  (try simp only [Act.put, st_a, st_0, st_s])
  refine wl_give rfl (g_assign _ (.int .i64 (E)) rfl ?_)
  (try simp only [Act.put, st_a, st_0, st_s])
  refine wl_nil ?_
  refine hK7 _ _ ?_
  (try clear hK7 K7)
  refine wp_ret ?_
  (try simp only [Exit.inBlock, Exit.then])
  exact bodyPost_ret (results_blk_tmp rfl _ (pkc (0) (⟨#[]⟩) (⟨#[]⟩) (0) (zk)) (.int .i64 (E)) _ rfl rfl (hM.get 0 rfl) Tryd.underlying44 rfl (szPk _ _ _ _ _)) rfl ⟨rfl, ((hM.erase 0).up 0 rfl)⟩
set_option maxHeartbeats 4000000 in
theorem rsend_late {w0 w : World} {R : List HP} {p : Nat} {s : Ky} {P : Pl} {l t : Int} (x : ByteArray) (J : Int) (hM : Ms w0 w (blk p (rsc s P (l)) 36 :: R)) (hP : POk P) (hl0 : 0 ≤ l) (hl1 : l ≤ P.ct) (hpat : Shut (pat P t = (J, 0))) (hJ : J < l) : Calls Tryd.prog 16 #[.pointer (some ⟨p, 0, none⟩), .int .i64 t, .string x] w fun e w' => e = .returned (.tuple #[.agg (pkc 0 ⟨#[]⟩ ⟨#[]⟩ 0 zk).toArray, .int .i64 14]) ∧ Ms w0 w' (blk p (rsc s P (l)) 36 :: R) := by
  go_enter Tryd.func16, Tryd.ntmps16
  refine wp_seq_k (fun K1 hK1 => ?_)
  refine wl_region ?_
  refine wl_give rfl (g_alloc 44 (pkc (0) (⟨#[]⟩) (⟨#[]⟩) (0) (zk)) zeroPk ?_)
  intro w2 t_ b_
  replace hM := hM.new t_ b_
  clear t_ b_
  (try simp only [Act.put, st_a, st_0, st_s])
  refine wl_give rfl (g_assign _ (.int .i64 (0)) rfl ?_)
  (try simp only [Act.put, st_a, st_0, st_s])
  refine wl_nil ?_
  refine hK1 _ _ ?_
  (try clear hK1 K1)
  refine wp_seq_k (fun K3 hK3 => ?_)
  refine wl_region ?_
  refine wl_give rfl (g_move _ (.pointer (some ⟨p, 0, none⟩)) rfl ?_)
  (try simp only [Act.put, st_a, st_0, st_s])
  refine wl_give rfl (g_nil _ ⟨p, 0, none⟩ rfl ?_)
  (try simp only [Act.put, st_a, st_0, st_s])
  refine wl_give rfl (g_fa 36 _ (p) (0) (32) 1 rfl (faRs1 _ _ _) ?_)
  (try simp only [Act.put, st_a, st_0, st_s])
  refine wl_give rfl (g_load 34 _ (p) (32) 4 _ 36 _ rfl (hM.get 1 rfl) Tryd.underlying34 rfl sizeRP (by rw [rsc_length]; decide) (plc (P)) (rs_plan _ _ _) ?_)
  (try simp only [Act.put, st_a, st_0, st_s])
  refine wl_give rfl (g_move _ (.int .i64 (t)) rfl ?_)
  (try simp only [Act.put, st_a, st_0, st_s])
  refine wl_give rfl (g_call 34 _ _ [.agg (plc (P)).toArray, .int .i64 (t)] (kf34 _ _) rfl ((rat_any P t w2 (J) (0) hpat).mono ?_))
  rintro e w4 ⟨rfl, t_⟩
  refine ⟨_, rfl, ?_⟩
  replace hM := hM.call t_
  clear t_
  (try simp only [Act.put, st_a, st_0, st_s])
  refine wl_give rfl (g_move _ (.tuple #[.int .i64 (J), .int .i64 (0)]) rfl ?_)
  (try simp only [Act.put, st_a, st_0, st_s])
  refine wl_give rfl (g_extract _ #[.int .i64 (J), .int .i64 (0)] 0 (.int .i64 (J)) rfl rfl ?_)
  (try simp only [Act.put, st_a, st_0, st_s])
  refine wl_give rfl (g_extract _ #[.int .i64 (J), .int .i64 (0)] 1 (.int .i64 (0)) rfl rfl ?_)
  (try simp only [Act.put, st_a, st_0, st_s])
  refine wl_give rfl (g_assign _ (.int .i64 (J)) rfl ?_)
  (try simp only [Act.put, st_a, st_0, st_s])
  refine wl_give rfl (g_assign _ (.int .i64 (0)) rfl ?_)
  (try simp only [Act.put, st_a, st_0, st_s])
  refine wl_nil ?_
  refine hK3 _ _ ?_
  (try clear hK3 K3)
  refine wp_seq_k (fun K5 hK5 => ?_)
  refine wp_seq_k (fun K6 hK6 => ?_)
  refine wl_region ?_
  refine wl_give rfl (g_move _ (.int .i64 (0)) rfl ?_)
  (try simp only [Act.put, st_a, st_0, st_s])
  refine wl_give rfl (g_ine 29 _ _ .i64 (0) (0) false rfl rfl (by decide) ?_)
  (try simp only [Act.put, st_a, st_0, st_s])
  refine wl_nil ?_
  refine hK6 _ _ ?_
  (try clear hK6 K6)
  refine wp_cond_false rfl ?_
  refine wp_skip ?_
  refine hK5 _ _ ?_
  (try clear hK5 K5)
  refine wp_seq_k (fun K7 hK7 => ?_)
  refine wp_seq_k (fun K8 hK8 => ?_)
  refine wl_region ?_
  refine wl_give rfl (g_move _ (.int .i64 (J)) rfl ?_)
  (try simp only [Act.put, st_a, st_0, st_s])
  refine wl_give rfl (g_move _ (.pointer (some ⟨p, 0, none⟩)) rfl ?_)
  (try simp only [Act.put, st_a, st_0, st_s])
  refine wl_give rfl (g_nil _ ⟨p, 0, none⟩ rfl ?_)
  (try simp only [Act.put, st_a, st_0, st_s])
  refine wl_give rfl (g_fa 36 _ (p) (0) (36) 2 rfl (faRs2 _ _ _) ?_)
  (try simp only [Act.put, st_a, st_0, st_s])
  refine wl_give rfl (g_ld1 3 _ (p) (36) _ rfl (ld3 _ _ _ _ ((hM.get 1 rfl).cell (36) _ (rs_last _ _ _))) ?_)
  (try simp only [Act.put, st_a, st_0, st_s])
  refine wl_give rfl (g_ilss 3 _ _ .i64 (J) (l) true rfl rfl (decide_eq_true hJ) ?_)
  (try simp only [Act.put, st_a, st_0, st_s])
  refine wl_nil ?_
  refine hK8 _ _ ?_
  (try clear hK8 K8)
  refine wp_cond_true rfl ?_
  refine wp_seq_k (fun K9 hK9 => ?_)
  refine wl_region ?_
  refine wl_give rfl (g_bldPk0 ?_)
  (try simp only [Act.put, st_a, st_0, st_s])
  refine wl_give rfl (g_store_all 44 _ _ (w.heap.size) (pkc (0) (⟨#[]⟩) (⟨#[]⟩) (0) (zk)) _ 44 rfl rfl (hM.get 0 rfl) (szPk _ _ _ _ _) (kk2_len _ _ _ _ _ _ _ _ _ _) (one_pkc _ _ _ _ _) ?_)
  intro w10 t_ b_
  replace hM : Ms w0 w10 (blk (w.heap.size) (pkc (0) (⟨#[]⟩) (⟨#[]⟩) (0) (zk)) 44 :: blk (p) (rsc (s) (P) (l)) 36 :: R) := hM.put 0 rfl t_ b_
  clear t_ b_
  (try simp only [Act.put, st_a, st_0, st_s])
  refine wl_give rfl (g_assign _ (.int .i64 (14)) rfl ?_)
  (try simp only [Act.put, st_a, st_0, st_s])
  refine wl_nil ?_
  refine hK9 _ _ ?_
  (try clear hK9 K9)
  refine wp_ret ?_
  (try simp only [Exit.inBlock, Exit.then])
  exact bodyPost_ret (results_blk_tmp rfl _ (pkc (0) (⟨#[]⟩) (⟨#[]⟩) (0) (zk)) (.int .i64 (14)) _ rfl rfl (hM.get 0 rfl) Tryd.underlying44 rfl (szPk _ _ _ _ _)) rfl ⟨rfl, ((hM.erase 0).up 0 rfl)⟩
set_option maxHeartbeats 4000000 in
theorem rsend_size {w0 w : World} {R : List HP} {p : Nat} {s : Ky} {P : Pl} {l t : Int} (x : ByteArray) (J : Int) (hM : Ms w0 w (blk p (rsc s P (l)) 36 :: R)) (hP : POk P) (hl0 : 0 ≤ l) (hl1 : l ≤ P.ct) (hpat : Shut (pat P t = (J, 0))) (hJ : ¬ J < l) (hx : 1000 < ((x.size : Nat) : Int)) : Calls Tryd.prog 16 #[.pointer (some ⟨p, 0, none⟩), .int .i64 t, .string x] w fun e w' => e = .returned (.tuple #[.agg (pkc 0 ⟨#[]⟩ ⟨#[]⟩ 0 zk).toArray, .int .i64 5]) ∧ Ms w0 w' (blk p (rsc s P (l)) 36 :: R) := by
  go_enter Tryd.func16, Tryd.ntmps16
  refine wp_seq_k (fun K1 hK1 => ?_)
  refine wl_region ?_
  refine wl_give rfl (g_alloc 44 (pkc (0) (⟨#[]⟩) (⟨#[]⟩) (0) (zk)) zeroPk ?_)
  intro w2 t_ b_
  replace hM := hM.new t_ b_
  clear t_ b_
  (try simp only [Act.put, st_a, st_0, st_s])
  refine wl_give rfl (g_assign _ (.int .i64 (0)) rfl ?_)
  (try simp only [Act.put, st_a, st_0, st_s])
  refine wl_nil ?_
  refine hK1 _ _ ?_
  (try clear hK1 K1)
  refine wp_seq_k (fun K3 hK3 => ?_)
  refine wl_region ?_
  refine wl_give rfl (g_move _ (.pointer (some ⟨p, 0, none⟩)) rfl ?_)
  (try simp only [Act.put, st_a, st_0, st_s])
  refine wl_give rfl (g_nil _ ⟨p, 0, none⟩ rfl ?_)
  (try simp only [Act.put, st_a, st_0, st_s])
  refine wl_give rfl (g_fa 36 _ (p) (0) (32) 1 rfl (faRs1 _ _ _) ?_)
  (try simp only [Act.put, st_a, st_0, st_s])
  refine wl_give rfl (g_load 34 _ (p) (32) 4 _ 36 _ rfl (hM.get 1 rfl) Tryd.underlying34 rfl sizeRP (by rw [rsc_length]; decide) (plc (P)) (rs_plan _ _ _) ?_)
  (try simp only [Act.put, st_a, st_0, st_s])
  refine wl_give rfl (g_move _ (.int .i64 (t)) rfl ?_)
  (try simp only [Act.put, st_a, st_0, st_s])
  refine wl_give rfl (g_call 34 _ _ [.agg (plc (P)).toArray, .int .i64 (t)] (kf34 _ _) rfl ((rat_any P t w2 (J) (0) hpat).mono ?_))
  rintro e w4 ⟨rfl, t_⟩
  refine ⟨_, rfl, ?_⟩
  replace hM := hM.call t_
  clear t_
  (try simp only [Act.put, st_a, st_0, st_s])
  refine wl_give rfl (g_move _ (.tuple #[.int .i64 (J), .int .i64 (0)]) rfl ?_)
  (try simp only [Act.put, st_a, st_0, st_s])
  refine wl_give rfl (g_extract _ #[.int .i64 (J), .int .i64 (0)] 0 (.int .i64 (J)) rfl rfl ?_)
  (try simp only [Act.put, st_a, st_0, st_s])
  refine wl_give rfl (g_extract _ #[.int .i64 (J), .int .i64 (0)] 1 (.int .i64 (0)) rfl rfl ?_)
  (try simp only [Act.put, st_a, st_0, st_s])
  refine wl_give rfl (g_assign _ (.int .i64 (J)) rfl ?_)
  (try simp only [Act.put, st_a, st_0, st_s])
  refine wl_give rfl (g_assign _ (.int .i64 (0)) rfl ?_)
  (try simp only [Act.put, st_a, st_0, st_s])
  refine wl_nil ?_
  refine hK3 _ _ ?_
  (try clear hK3 K3)
  refine wp_seq_k (fun K5 hK5 => ?_)
  refine wp_seq_k (fun K6 hK6 => ?_)
  refine wl_region ?_
  refine wl_give rfl (g_move _ (.int .i64 (0)) rfl ?_)
  (try simp only [Act.put, st_a, st_0, st_s])
  refine wl_give rfl (g_ine 29 _ _ .i64 (0) (0) false rfl rfl (by decide) ?_)
  (try simp only [Act.put, st_a, st_0, st_s])
  refine wl_nil ?_
  refine hK6 _ _ ?_
  (try clear hK6 K6)
  refine wp_cond_false rfl ?_
  refine wp_skip ?_
  refine hK5 _ _ ?_
  (try clear hK5 K5)
  refine wp_seq_k (fun K7 hK7 => ?_)
  refine wp_seq_k (fun K8 hK8 => ?_)
  refine wl_region ?_
  refine wl_give rfl (g_move _ (.int .i64 (J)) rfl ?_)
  (try simp only [Act.put, st_a, st_0, st_s])
  refine wl_give rfl (g_move _ (.pointer (some ⟨p, 0, none⟩)) rfl ?_)
  (try simp only [Act.put, st_a, st_0, st_s])
  refine wl_give rfl (g_nil _ ⟨p, 0, none⟩ rfl ?_)
  (try simp only [Act.put, st_a, st_0, st_s])
  refine wl_give rfl (g_fa 36 _ (p) (0) (36) 2 rfl (faRs2 _ _ _) ?_)
  (try simp only [Act.put, st_a, st_0, st_s])
  refine wl_give rfl (g_ld1 3 _ (p) (36) _ rfl (ld3 _ _ _ _ ((hM.get 1 rfl).cell (36) _ (rs_last _ _ _))) ?_)
  (try simp only [Act.put, st_a, st_0, st_s])
  refine wl_give rfl (g_ilss 3 _ _ .i64 (J) (l) false rfl rfl (decide_eq_false hJ) ?_)
  (try simp only [Act.put, st_a, st_0, st_s])
  refine wl_nil ?_
  refine hK8 _ _ ?_
  (try clear hK8 K8)
  refine wp_cond_false rfl ?_
  refine wp_skip ?_
  refine hK7 _ _ ?_
  (try clear hK7 K7)
  refine wp_seq_k (fun K9 hK9 => ?_)
  refine wp_seq_k (fun K10 hK10 => ?_)
  refine wl_region ?_
  refine wl_give rfl (g_move _ (.string (x)) rfl ?_)
  (try simp only [Act.put, st_a, st_0, st_s])
  refine wl_give rfl (g_lenT _ (x) ((((x).size : Nat) : Int)) rfl (rfl) ?_)
  (try simp only [Act.put, st_a, st_0, st_s])
  refine wl_give rfl (g_igtr 3 _ _ .i64 ((((x).size : Nat) : Int)) (1000) true rfl rfl (decide_eq_true hx) ?_)
  (try simp only [Act.put, st_a, st_0, st_s])
  refine wl_nil ?_
  refine hK10 _ _ ?_
  (try clear hK10 K10)
  refine wp_cond_true rfl ?_
  refine wp_seq_k (fun K11 hK11 => ?_)
  refine wl_region ?_
  refine wl_give rfl (g_bldPk0 ?_)
  (try simp only [Act.put, st_a, st_0, st_s])
  refine wl_give rfl (g_store_all 44 _ _ (w.heap.size) (pkc (0) (⟨#[]⟩) (⟨#[]⟩) (0) (zk)) _ 44 rfl rfl (hM.get 0 rfl) (szPk _ _ _ _ _) (kk2_len _ _ _ _ _ _ _ _ _ _) (one_pkc _ _ _ _ _) ?_)
  intro w12 t_ b_
  replace hM : Ms w0 w12 (blk (w.heap.size) (pkc (0) (⟨#[]⟩) (⟨#[]⟩) (0) (zk)) 44 :: blk (p) (rsc (s) (P) (l)) 36 :: R) := hM.put 0 rfl t_ b_
  clear t_ b_
  (try simp only [Act.put, st_a, st_0, st_s])
  refine wl_give rfl (g_assign _ (.int .i64 (5)) rfl ?_)
  (try simp only [Act.put, st_a, st_0, st_s])
  refine wl_nil ?_
  refine hK11 _ _ ?_
  (try clear hK11 K11)
  refine wp_ret ?_
  (try simp only [Exit.inBlock, Exit.then])
  exact bodyPost_ret (results_blk_tmp rfl _ (pkc (0) (⟨#[]⟩) (⟨#[]⟩) (0) (zk)) (.int .i64 (5)) _ rfl rfl (hM.get 0 rfl) Tryd.underlying44 rfl (szPk _ _ _ _ _)) rfl ⟨rfl, ((hM.erase 0).up 0 rfl)⟩
set_option maxHeartbeats 4000000 in
theorem rsend_none {w0 w : World} {R : List HP} {p : Nat} {s : Ky} {P : Pl} {l t : Int} (x : ByteArray) (J : Int) (K1 : Ky) (hK1 : Shut (ky s P.ct J = (K1, 0))) (G : ByteArray) (hG : Shut (tgs K1 J x = G)) (hTe : Shut (pte P J = 0)) (hM : Ms w0 w (blk p (rsc s P (l)) 36 :: R)) (hP : POk P) (hl0 : 0 ≤ l) (hl1 : l ≤ P.ct) (hpat : Shut (pat P t = (J, 0))) (hJ : ¬ J < l) (hx : ¬ 1000 < ((x.size : Nat) : Int)) : Calls Tryd.prog 16 #[.pointer (some ⟨p, 0, none⟩), .int .i64 t, .string x] w fun e w' => e = .returned (.tuple #[.agg (pkc J x G 0 zk).toArray, .int .i64 0]) ∧ Ms w0 w' (blk p (rsc s P (J)) 36 :: R) := by
  go_enter Tryd.func16, Tryd.ntmps16
  refine wp_seq_k (fun K1 hK1 => ?_)
  refine wl_region ?_
  refine wl_give rfl (g_alloc 44 (pkc (0) (⟨#[]⟩) (⟨#[]⟩) (0) (zk)) zeroPk ?_)
  intro w2 t_ b_
  replace hM := hM.new t_ b_
  clear t_ b_
  (try simp only [Act.put, st_a, st_0, st_s])
  refine wl_give rfl (g_assign _ (.int .i64 (0)) rfl ?_)
  (try simp only [Act.put, st_a, st_0, st_s])
  refine wl_nil ?_
  refine hK1 _ _ ?_
  (try clear hK1 K1)
  refine wp_seq_k (fun K3 hK3 => ?_)
  refine wl_region ?_
  refine wl_give rfl (g_move _ (.pointer (some ⟨p, 0, none⟩)) rfl ?_)
  (try simp only [Act.put, st_a, st_0, st_s])
  refine wl_give rfl (g_nil _ ⟨p, 0, none⟩ rfl ?_)
  (try simp only [Act.put, st_a, st_0, st_s])
  refine wl_give rfl (g_fa 36 _ (p) (0) (32) 1 rfl (faRs1 _ _ _) ?_)
  (try simp only [Act.put, st_a, st_0, st_s])
  refine wl_give rfl (g_load 34 _ (p) (32) 4 _ 36 _ rfl (hM.get 1 rfl) Tryd.underlying34 rfl sizeRP (by rw [rsc_length]; decide) (plc (P)) (rs_plan _ _ _) ?_)
  (try simp only [Act.put, st_a, st_0, st_s])
  refine wl_give rfl (g_move _ (.int .i64 (t)) rfl ?_)
  (try simp only [Act.put, st_a, st_0, st_s])
  refine wl_give rfl (g_call 34 _ _ [.agg (plc (P)).toArray, .int .i64 (t)] (kf34 _ _) rfl ((rat_any P t w2 (J) (0) hpat).mono ?_))
  rintro e w4 ⟨rfl, t_⟩
  refine ⟨_, rfl, ?_⟩
  replace hM := hM.call t_
  clear t_
  (try simp only [Act.put, st_a, st_0, st_s])
  refine wl_give rfl (g_move _ (.tuple #[.int .i64 (J), .int .i64 (0)]) rfl ?_)
  (try simp only [Act.put, st_a, st_0, st_s])
  refine wl_give rfl (g_extract _ #[.int .i64 (J), .int .i64 (0)] 0 (.int .i64 (J)) rfl rfl ?_)
  (try simp only [Act.put, st_a, st_0, st_s])
  refine wl_give rfl (g_extract _ #[.int .i64 (J), .int .i64 (0)] 1 (.int .i64 (0)) rfl rfl ?_)
  (try simp only [Act.put, st_a, st_0, st_s])
  refine wl_give rfl (g_assign _ (.int .i64 (J)) rfl ?_)
  (try simp only [Act.put, st_a, st_0, st_s])
  refine wl_give rfl (g_assign _ (.int .i64 (0)) rfl ?_)
  (try simp only [Act.put, st_a, st_0, st_s])
  refine wl_nil ?_
  refine hK3 _ _ ?_
  (try clear hK3 K3)
  refine wp_seq_k (fun K5 hK5 => ?_)
  refine wp_seq_k (fun K6 hK6 => ?_)
  refine wl_region ?_
  refine wl_give rfl (g_move _ (.int .i64 (0)) rfl ?_)
  (try simp only [Act.put, st_a, st_0, st_s])
  refine wl_give rfl (g_ine 29 _ _ .i64 (0) (0) false rfl rfl (by decide) ?_)
  (try simp only [Act.put, st_a, st_0, st_s])
  refine wl_nil ?_
  refine hK6 _ _ ?_
  (try clear hK6 K6)
  refine wp_cond_false rfl ?_
  refine wp_skip ?_
  refine hK5 _ _ ?_
  (try clear hK5 K5)
  refine wp_seq_k (fun K7 hK7 => ?_)
  refine wp_seq_k (fun K8 hK8 => ?_)
  refine wl_region ?_
  refine wl_give rfl (g_move _ (.int .i64 (J)) rfl ?_)
  (try simp only [Act.put, st_a, st_0, st_s])
  refine wl_give rfl (g_move _ (.pointer (some ⟨p, 0, none⟩)) rfl ?_)
  (try simp only [Act.put, st_a, st_0, st_s])
  refine wl_give rfl (g_nil _ ⟨p, 0, none⟩ rfl ?_)
  (try simp only [Act.put, st_a, st_0, st_s])
  refine wl_give rfl (g_fa 36 _ (p) (0) (36) 2 rfl (faRs2 _ _ _) ?_)
  (try simp only [Act.put, st_a, st_0, st_s])
  refine wl_give rfl (g_ld1 3 _ (p) (36) _ rfl (ld3 _ _ _ _ ((hM.get 1 rfl).cell (36) _ (rs_last _ _ _))) ?_)
  (try simp only [Act.put, st_a, st_0, st_s])
  refine wl_give rfl (g_ilss 3 _ _ .i64 (J) (l) false rfl rfl (decide_eq_false hJ) ?_)
  (try simp only [Act.put, st_a, st_0, st_s])
  refine wl_nil ?_
  refine hK8 _ _ ?_
  (try clear hK8 K8)
  refine wp_cond_false rfl ?_
  refine wp_skip ?_
  refine hK7 _ _ ?_
  (try clear hK7 K7)
  refine wp_seq_k (fun K9 hK9 => ?_)
  refine wp_seq_k (fun K10 hK10 => ?_)
  refine wl_region ?_
  refine wl_give rfl (g_move _ (.string (x)) rfl ?_)
  (try simp only [Act.put, st_a, st_0, st_s])
  refine wl_give rfl (g_lenT _ (x) ((((x).size : Nat) : Int)) rfl (rfl) ?_)
  (try simp only [Act.put, st_a, st_0, st_s])
  refine wl_give rfl (g_igtr 3 _ _ .i64 ((((x).size : Nat) : Int)) (1000) false rfl rfl (decide_eq_false hx) ?_)
  (try simp only [Act.put, st_a, st_0, st_s])
  refine wl_nil ?_
  refine hK10 _ _ ?_
  (try clear hK10 K10)
  refine wp_cond_false rfl ?_
  refine wp_skip ?_
  refine hK9 _ _ ?_
  (try clear hK9 K9)
  refine wp_seq_k (fun K11 hK11 => ?_)
  refine wl_region ?_
  refine wl_give rfl (g_move _ (.pointer (some ⟨p, 0, none⟩)) rfl ?_)
  (try simp only [Act.put, st_a, st_0, st_s])
  refine wl_give rfl (g_move _ (.int .i64 (J)) rfl ?_)
  (try simp only [Act.put, st_a, st_0, st_s])
  refine wl_give rfl (g_nil _ ⟨p, 0, none⟩ rfl ?_)
  (try simp only [Act.put, st_a, st_0, st_s])
  refine wl_give rfl (g_fa 36 _ (p) (0) (36) 2 rfl (faRs2 _ _ _) ?_)
  (try simp only [Act.put, st_a, st_0, st_s])
  refine wl_give rfl (g_st1 3 _ _ (p) (36) (.int .i64 (J)) _ 36 rfl rfl (hM.get 1 rfl) (by rw [rsc_length]; decide) rfl rfl size3 ?_)
  intro w12 t_ b_
  replace hM : Ms w0 w12 (blk (w.heap.size) (pkc (0) (⟨#[]⟩) (⟨#[]⟩) (0) (zk)) 44 :: blk (p) (rsc (s) (P) (J)) 36 :: R) := hM.put 1 rfl t_ (rs_put _ _ _ _ ▸ b_)
  clear t_ b_
  (try simp only [Act.put, st_a, st_0, st_s])
  refine wl_nil ?_
  refine hK11 _ _ ?_
  (try clear hK11 K11)
  refine wp_seq_k (fun K13 hK13 => ?_)
  refine wp_region_steps (by kernel_rfl) (by kernel_rfl) [14, 15] [0, 0, 0, 0, 0, 0, 0, 0, 0, 0, 0, 0, 0, 0, 0, 1, 2] [1, 1, 1, 1, 1, 1, 1, 1, 1, 1, 1, 1, 1, 2, 1, 2, 2] (by kernel_rfl) (Pm := Nat) (fun π => [.pointer (some ⟨p, 0, none⟩), .pointer (some ⟨p, 0, none⟩), .pointer (some ⟨p, 0, none⟩), .agg (kc (s)).toArray, .pointer (some ⟨p, 0, none⟩), .pointer (some ⟨p, 0, none⟩), .pointer (some ⟨p, 32, none⟩), .pointer (some ⟨p, 32 + 3, none⟩), .int .i64 ((P).ct), .int .i64 (J), .tuple #[.agg (kc (K1)).toArray, .int .i64 (0)], .tuple #[.agg (kc (K1)).toArray, .int .i64 (0)], .agg (kc (K1)).toArray, .int .i64 (0), .pointer (some ⟨π, 0, none⟩), undef, .int .i64 (0)]) (fun _ => by rfl) (fun j_ π wx => match j_ with | 0 => Ms w0 wx (blk (w.heap.size) (pkc (0) (⟨#[]⟩) (⟨#[]⟩) (0) (zk)) 44 :: blk (p) (rsc (s) (P) (J)) 36 :: R) | 1 => Ms w0 wx (blk (π) (kc (zk)) 23 :: blk (w.heap.size) (pkc (0) (⟨#[]⟩) (⟨#[]⟩) (0) (zk)) 44 :: blk (p) (rsc (s) (P) (J)) 36 :: R) | _ => Ms w0 wx (blk (π) (kc (K1)) 23 :: blk (w.heap.size) (pkc (0) (⟨#[]⟩) (⟨#[]⟩) (0) (zk)) 44 :: blk (p) (rsc (s) (P) (J)) 36 :: R)) (0) hM.drew ?_ ?_ ?_
  · intro j_ k_ o_ hj_ ho_ π wx hM
    rcases j_ with _ | _ | j_
    · obtain rfl := Option.some.inj hj_
      obtain rfl := Option.some.inj ho_
      simp only [fullL, Act.put, st_a, st_s, st_0]
      replace hM : Ms w0 wx (blk (w.heap.size) (pkc (0) (⟨#[]⟩) (⟨#[]⟩) (0) (zk)) 44 :: blk (p) (rsc (s) (P) (J)) 36 :: R) := hM
      exact gw rfl (g_alloc 23 (kc (zk)) zeroK (fun w' t_ b_ => ⟨(wx.heap.size), rfl, fun i h1 h2 => by rcases i with _ | _ | _ | _ | _ | _ | _ | _ | _ | _ | _ | _ | _ | _ | _ | _ | _ | i <;> first | rfl | trivial | exact absurd rfl h2 | exact absurd h1 (by decide), hM.new t_ b_⟩))
    · obtain rfl := Option.some.inj hj_
      obtain rfl := Option.some.inj ho_
      simp only [fullL, Act.put, st_a, st_s, st_0]
      replace hM : Ms w0 wx (blk (π) (kc (zk)) 23 :: blk (w.heap.size) (pkc (0) (⟨#[]⟩) (⟨#[]⟩) (0) (zk)) 44 :: blk (p) (rsc (s) (P) (J)) 36 :: R) := hM
      exact gw rfl (g_store_all 23 _ _ (π) (kc (K1)) _ 23 rfl rfl (hM.get 0 rfl) (szK _) (kk_len _ _) (one_kc _) (fun w' t_ b_ => ⟨(π), rfl, fun i h1 h2 => by rcases i with _ | _ | _ | _ | _ | _ | _ | _ | _ | _ | _ | _ | _ | _ | _ | _ | _ | i <;> first | rfl | trivial | exact absurd rfl h2 | exact absurd h1 (by decide), hM.put 0 rfl t_ b_⟩))
    · simp at hj_
  · intro i_ o_ ho_ hi_ j_ hd_ hh_ hj_ π wx hM
    simp only [fullL, Act.put, st_a, st_s, st_0]
    rcases i_ with _ | _ | _ | _ | _ | _ | _ | _ | _ | _ | _ | _ | _ | _ | _ | _ | _ | i_
    · obtain rfl := Option.some.inj ho_
      exact gw rfl (g_move _ (.pointer (some ⟨p, 0, none⟩)) rfl ⟨rfl, hM⟩)
    · obtain rfl := Option.some.inj ho_
      exact gw rfl (g_nil _ ⟨p, 0, none⟩ rfl ⟨rfl, hM⟩)
    · obtain rfl := Option.some.inj ho_
      exact gw rfl (g_fa 36 _ (p) (0) (0) 0 rfl (faRs0 _ _ _) ⟨rfl, hM⟩)
    · obtain rfl := Option.some.inj ho_
      rcases j_ with _ | _ | _ | j_
      · replace hM : Ms w0 wx (blk (w.heap.size) (pkc (0) (⟨#[]⟩) (⟨#[]⟩) (0) (zk)) 44 :: blk (p) (rsc (s) (P) (J)) 36 :: R) := hM
        exact gw rfl (g_load 23 _ (p) (0) 32 _ 36 _ rfl (hM.get 1 rfl) Tryd.underlying23 rfl size23 (by rw [rsc_length]; decide) (kc (s)) (rs_seed _ _ _) ⟨rfl, hM⟩)
      · replace hM : Ms w0 wx (blk (π) (kc (zk)) 23 :: blk (w.heap.size) (pkc (0) (⟨#[]⟩) (⟨#[]⟩) (0) (zk)) 44 :: blk (p) (rsc (s) (P) (J)) 36 :: R) := hM
        exact gw rfl (g_load 23 _ (p) (0) 32 _ 36 _ rfl (hM.get 2 rfl) Tryd.underlying23 rfl size23 (by rw [rsc_length]; decide) (kc (s)) (rs_seed _ _ _) ⟨rfl, hM⟩)
      · exact absurd hh_ (by decide)
      · exact absurd hj_ (by simp)
    · obtain rfl := Option.some.inj ho_
      exact gw rfl (g_move _ (.pointer (some ⟨p, 0, none⟩)) rfl ⟨rfl, hM⟩)
    · obtain rfl := Option.some.inj ho_
      exact gw rfl (g_nil _ ⟨p, 0, none⟩ rfl ⟨rfl, hM⟩)
    · obtain rfl := Option.some.inj ho_
      exact gw rfl (g_fa 36 _ (p) (0) (32) 1 rfl (faRs1 _ _ _) ⟨rfl, hM⟩)
    · obtain rfl := Option.some.inj ho_
      exact gw rfl (g_fa 34 _ (p) (32) (32 + 3) 3 rfl (faRp3 _ _ _) ⟨rfl, hM⟩)
    · obtain rfl := Option.some.inj ho_
      rcases j_ with _ | _ | _ | j_
      · replace hM : Ms w0 wx (blk (w.heap.size) (pkc (0) (⟨#[]⟩) (⟨#[]⟩) (0) (zk)) 44 :: blk (p) (rsc (s) (P) (J)) 36 :: R) := hM
        exact gw rfl (g_ld1 3 _ (p) (32 + 3) _ rfl (ld3 _ _ _ _ ((hM.get 1 rfl).cell (32 + 3) _ (rs_ct _ _ _))) ⟨rfl, hM⟩)
      · replace hM : Ms w0 wx (blk (π) (kc (zk)) 23 :: blk (w.heap.size) (pkc (0) (⟨#[]⟩) (⟨#[]⟩) (0) (zk)) 44 :: blk (p) (rsc (s) (P) (J)) 36 :: R) := hM
        exact gw rfl (g_ld1 3 _ (p) (32 + 3) _ rfl (ld3 _ _ _ _ ((hM.get 2 rfl).cell (32 + 3) _ (rs_ct _ _ _))) ⟨rfl, hM⟩)
      · exact absurd hh_ (by decide)
      · exact absurd hj_ (by simp)
    · obtain rfl := Option.some.inj ho_
      exact gw rfl (g_move _ (.int .i64 (J)) rfl ⟨rfl, hM⟩)
    · obtain rfl := Option.some.inj ho_
      rcases j_ with _ | _ | _ | j_
      · replace hM : Ms w0 wx (blk (w.heap.size) (pkc (0) (⟨#[]⟩) (⟨#[]⟩) (0) (zk)) 44 :: blk (p) (rsc (s) (P) (J)) 36 :: R) := hM
        exact gw rfl (g_call 18 _ _ [.agg (kc (s)).toArray, .int .i64 ((P).ct), .int .i64 (J)] (kf18 _ _) rfl ((rckey_any s P.ct J wx K1 0 hK1).mono (fun _ _ ⟨h1_, h2_⟩ => ⟨_, h1_, rfl, hM.call h2_⟩)))
      · replace hM : Ms w0 wx (blk (π) (kc (zk)) 23 :: blk (w.heap.size) (pkc (0) (⟨#[]⟩) (⟨#[]⟩) (0) (zk)) 44 :: blk (p) (rsc (s) (P) (J)) 36 :: R) := hM
        exact gw rfl (g_call 18 _ _ [.agg (kc (s)).toArray, .int .i64 ((P).ct), .int .i64 (J)] (kf18 _ _) rfl ((rckey_any s P.ct J wx K1 0 hK1).mono (fun _ _ ⟨h1_, h2_⟩ => ⟨_, h1_, rfl, hM.call h2_⟩)))
      · exact absurd hh_ (by decide)
      · exact absurd hj_ (by simp)
    · obtain rfl := Option.some.inj ho_
      exact gw rfl (g_move _ (.tuple #[.agg (kc (K1)).toArray, .int .i64 (0)]) rfl ⟨rfl, hM⟩)
    · obtain rfl := Option.some.inj ho_
      exact gw rfl (g_extract _ #[.agg (kc (K1)).toArray, .int .i64 (0)] 0 (.agg (kc (K1)).toArray) rfl rfl ⟨rfl, hM⟩)
    · obtain rfl := Option.some.inj ho_
      exact gw rfl (g_extract _ #[.agg (kc (K1)).toArray, .int .i64 (0)] 1 (.int .i64 (0)) rfl rfl ⟨rfl, hM⟩)
    · exact absurd (by decide) hi_
    · exact absurd (by decide) hi_
    · obtain rfl := Option.some.inj ho_
      exact gw rfl (g_assign _ (.int .i64 (0)) rfl ⟨rfl, hM⟩)
    · simp at ho_
  · simp only [fullL, Act.put, st_a, st_s, st_0]
    rintro p15 w14 hM
    replace hM : Ms w0 w14 (blk (p15) (kc (K1)) 23 :: blk (w.heap.size) (pkc (0) (⟨#[]⟩) (⟨#[]⟩) (0) (zk)) 44 :: blk (p) (rsc (s) (P) (J)) 36 :: R) := hM
    refine hK13 _ _ ?_
    (try clear hK13 K13)
    refine wp_seq_k (fun K16 hK16 => ?_)
    refine wp_region_steps (by kernel_rfl) (by kernel_rfl) [13, 14] [0, 0, 0, 0, 0, 0, 0, 0, 0, 0, 0, 0, 0, 0, 1] [1, 1, 1, 1, 1, 1, 1, 1, 1, 1, 1, 1, 1, 1, 2] (by kernel_rfl) (Pm := Nat) (fun π => [.int .i64 (J), .string (x), .agg (kc (K1)).toArray, .int .i64 (J), .string (x), .string (G), .pointer (some ⟨p, 0, none⟩), .pointer (some ⟨p, 0, none⟩), .pointer (some ⟨p, 32, none⟩), .agg (plc (P)).toArray, .int .i64 (J), .int .i64 (0), .agg (pkc (J) (x) (G) (0) (zk)).toArray, .pointer (some ⟨π, 0, none⟩), undef]) (fun _ => by rfl) (fun j_ π wx => match j_ with | 0 => Ms w0 wx (blk (p15) (kc (K1)) 23 :: blk (w.heap.size) (pkc (0) (⟨#[]⟩) (⟨#[]⟩) (0) (zk)) 44 :: blk (p) (rsc (s) (P) (J)) 36 :: R) | 1 => Ms w0 wx (blk (π) (pkc (0) (⟨#[]⟩) (⟨#[]⟩) (0) (zk)) 44 :: blk (p15) (kc (K1)) 23 :: blk (w.heap.size) (pkc (0) (⟨#[]⟩) (⟨#[]⟩) (0) (zk)) 44 :: blk (p) (rsc (s) (P) (J)) 36 :: R) | _ => Ms w0 wx (blk (π) (pkc (J) (x) (G) (0) (zk)) 44 :: blk (p15) (kc (K1)) 23 :: blk (w.heap.size) (pkc (0) (⟨#[]⟩) (⟨#[]⟩) (0) (zk)) 44 :: blk (p) (rsc (s) (P) (J)) 36 :: R)) (0) hM.drew ?_ ?_ ?_
    · intro j_ k_ o_ hj_ ho_ π wx hM
      rcases j_ with _ | _ | j_
      · obtain rfl := Option.some.inj hj_
        obtain rfl := Option.some.inj ho_
        simp only [fullL, Act.put, st_a, st_s, st_0]
        replace hM : Ms w0 wx (blk (p15) (kc (K1)) 23 :: blk (w.heap.size) (pkc (0) (⟨#[]⟩) (⟨#[]⟩) (0) (zk)) 44 :: blk (p) (rsc (s) (P) (J)) 36 :: R) := hM
        exact gw rfl (g_alloc 44 (pkc (0) (⟨#[]⟩) (⟨#[]⟩) (0) (zk)) zeroPk (fun w' t_ b_ => ⟨(wx.heap.size), rfl, fun i h1 h2 => by rcases i with _ | _ | _ | _ | _ | _ | _ | _ | _ | _ | _ | _ | _ | _ | _ | i <;> first | rfl | trivial | exact absurd rfl h2 | exact absurd h1 (by decide), hM.new t_ b_⟩))
      · obtain rfl := Option.some.inj hj_
        obtain rfl := Option.some.inj ho_
        simp only [fullL, Act.put, st_a, st_s, st_0]
        replace hM : Ms w0 wx (blk (π) (pkc (0) (⟨#[]⟩) (⟨#[]⟩) (0) (zk)) 44 :: blk (p15) (kc (K1)) 23 :: blk (w.heap.size) (pkc (0) (⟨#[]⟩) (⟨#[]⟩) (0) (zk)) 44 :: blk (p) (rsc (s) (P) (J)) 36 :: R) := hM
        exact gw rfl (g_store_all 44 _ _ (π) (pkc (J) (x) (G) (0) (zk)) _ 44 rfl rfl (hM.get 0 rfl) (szPk _ _ _ _ _) (kk2_len _ _ _ _ _ _ _ _ _ _) (one_pkc _ _ _ _ _) (fun w' t_ b_ => ⟨(π), rfl, fun i h1 h2 => by rcases i with _ | _ | _ | _ | _ | _ | _ | _ | _ | _ | _ | _ | _ | _ | _ | i <;> first | rfl | trivial | exact absurd rfl h2 | exact absurd h1 (by decide), hM.put 0 rfl t_ b_⟩))
      · simp at hj_
    · intro i_ o_ ho_ hi_ j_ hd_ hh_ hj_ π wx hM
      simp only [fullL, Act.put, st_a, st_s, st_0]
      rcases i_ with _ | _ | _ | _ | _ | _ | _ | _ | _ | _ | _ | _ | _ | _ | _ | i_
      · obtain rfl := Option.some.inj ho_
        exact gw rfl (g_move _ (.int .i64 (J)) rfl ⟨rfl, hM⟩)
      · obtain rfl := Option.some.inj ho_
        exact gw rfl (g_move _ (.string (x)) rfl ⟨rfl, hM⟩)
      · obtain rfl := Option.some.inj ho_
        rcases j_ with _ | _ | _ | j_
        · replace hM : Ms w0 wx (blk (p15) (kc (K1)) 23 :: blk (w.heap.size) (pkc (0) (⟨#[]⟩) (⟨#[]⟩) (0) (zk)) 44 :: blk (p) (rsc (s) (P) (J)) 36 :: R) := hM
          exact gw rfl (g_load_all 23 _ (p15) (kc (K1)) 23 _ rfl (hM.get 0 rfl) Tryd.underlying23 rfl (szK _) ⟨rfl, hM⟩)
        · replace hM : Ms w0 wx (blk (π) (pkc (0) (⟨#[]⟩) (⟨#[]⟩) (0) (zk)) 44 :: blk (p15) (kc (K1)) 23 :: blk (w.heap.size) (pkc (0) (⟨#[]⟩) (⟨#[]⟩) (0) (zk)) 44 :: blk (p) (rsc (s) (P) (J)) 36 :: R) := hM
          exact gw rfl (g_load_all 23 _ (p15) (kc (K1)) 23 _ rfl (hM.get 1 rfl) Tryd.underlying23 rfl (szK _) ⟨rfl, hM⟩)
        · exact absurd hh_ (by decide)
        · exact absurd hj_ (by simp)
      · obtain rfl := Option.some.inj ho_
        exact gw rfl (g_move _ (.int .i64 (J)) rfl ⟨rfl, hM⟩)
      · obtain rfl := Option.some.inj ho_
        exact gw rfl (g_move _ (.string (x)) rfl ⟨rfl, hM⟩)
      · obtain rfl := Option.some.inj ho_
        rcases j_ with _ | _ | _ | j_
        · replace hM : Ms w0 wx (blk (p15) (kc (K1)) 23 :: blk (w.heap.size) (pkc (0) (⟨#[]⟩) (⟨#[]⟩) (0) (zk)) 44 :: blk (p) (rsc (s) (P) (J)) 36 :: R) := hM
          exact gw rfl (g_call 20 _ _ [.agg (kc (K1)).toArray, .int .i64 (J), .string (x)] (kf20 _ _) rfl ((rtagS_any K1 J x wx (by omega) G hG).mono (fun _ _ ⟨h1_, h2_⟩ => ⟨_, h1_, rfl, hM.call h2_⟩)))
        · replace hM : Ms w0 wx (blk (π) (pkc (0) (⟨#[]⟩) (⟨#[]⟩) (0) (zk)) 44 :: blk (p15) (kc (K1)) 23 :: blk (w.heap.size) (pkc (0) (⟨#[]⟩) (⟨#[]⟩) (0) (zk)) 44 :: blk (p) (rsc (s) (P) (J)) 36 :: R) := hM
          exact gw rfl (g_call 20 _ _ [.agg (kc (K1)).toArray, .int .i64 (J), .string (x)] (kf20 _ _) rfl ((rtagS_any K1 J x wx (by omega) G hG).mono (fun _ _ ⟨h1_, h2_⟩ => ⟨_, h1_, rfl, hM.call h2_⟩)))
        · exact absurd hh_ (by decide)
        · exact absurd hj_ (by simp)
      · obtain rfl := Option.some.inj ho_
        exact gw rfl (g_move _ (.pointer (some ⟨p, 0, none⟩)) rfl ⟨rfl, hM⟩)
      · obtain rfl := Option.some.inj ho_
        exact gw rfl (g_nil _ ⟨p, 0, none⟩ rfl ⟨rfl, hM⟩)
      · obtain rfl := Option.some.inj ho_
        exact gw rfl (g_fa 36 _ (p) (0) (32) 1 rfl (faRs1 _ _ _) ⟨rfl, hM⟩)
      · obtain rfl := Option.some.inj ho_
        rcases j_ with _ | _ | _ | j_
        · replace hM : Ms w0 wx (blk (p15) (kc (K1)) 23 :: blk (w.heap.size) (pkc (0) (⟨#[]⟩) (⟨#[]⟩) (0) (zk)) 44 :: blk (p) (rsc (s) (P) (J)) 36 :: R) := hM
          exact gw rfl (g_load 34 _ (p) (32) 4 _ 36 _ rfl (hM.get 2 rfl) Tryd.underlying34 rfl sizeRP (by rw [rsc_length]; decide) (plc (P)) (rs_plan _ _ _) ⟨rfl, hM⟩)
        · replace hM : Ms w0 wx (blk (π) (pkc (0) (⟨#[]⟩) (⟨#[]⟩) (0) (zk)) 44 :: blk (p15) (kc (K1)) 23 :: blk (w.heap.size) (pkc (0) (⟨#[]⟩) (⟨#[]⟩) (0) (zk)) 44 :: blk (p) (rsc (s) (P) (J)) 36 :: R) := hM
          exact gw rfl (g_load 34 _ (p) (32) 4 _ 36 _ rfl (hM.get 3 rfl) Tryd.underlying34 rfl sizeRP (by rw [rsc_length]; decide) (plc (P)) (rs_plan _ _ _) ⟨rfl, hM⟩)
        · exact absurd hh_ (by decide)
        · exact absurd hj_ (by simp)
      · obtain rfl := Option.some.inj ho_
        exact gw rfl (g_move _ (.int .i64 (J)) rfl ⟨rfl, hM⟩)
      · obtain rfl := Option.some.inj ho_
        rcases j_ with _ | _ | _ | j_
        · replace hM : Ms w0 wx (blk (p15) (kc (K1)) 23 :: blk (w.heap.size) (pkc (0) (⟨#[]⟩) (⟨#[]⟩) (0) (zk)) 44 :: blk (p) (rsc (s) (P) (J)) 36 :: R) := hM
          exact gw rfl (g_call 35 _ _ [.agg (plc (P)).toArray, .int .i64 (J)] (kf35 _ _) rfl ((rtells_any P J wx 0 hTe).mono (fun _ _ ⟨h1_, h2_⟩ => ⟨_, h1_, rfl, hM.call h2_⟩)))
        · replace hM : Ms w0 wx (blk (π) (pkc (0) (⟨#[]⟩) (⟨#[]⟩) (0) (zk)) 44 :: blk (p15) (kc (K1)) 23 :: blk (w.heap.size) (pkc (0) (⟨#[]⟩) (⟨#[]⟩) (0) (zk)) 44 :: blk (p) (rsc (s) (P) (J)) 36 :: R) := hM
          exact gw rfl (g_call 35 _ _ [.agg (plc (P)).toArray, .int .i64 (J)] (kf35 _ _) rfl ((rtells_any P J wx 0 hTe).mono (fun _ _ ⟨h1_, h2_⟩ => ⟨_, h1_, rfl, hM.call h2_⟩)))
        · exact absurd hh_ (by decide)
        · exact absurd hj_ (by simp)
      · obtain rfl := Option.some.inj ho_
        exact gw rfl (g_bldPk4 _ _ _ _ (J) (x) (G) (0) rfl rfl rfl rfl ⟨rfl, hM⟩)
      · exact absurd (by decide) hi_
      · exact absurd (by decide) hi_
      · simp at ho_
    · simp only [fullL, Act.put, st_a, st_s, st_0]
      rintro p18 w17 hM
      replace hM : Ms w0 w17 (blk (p18) (pkc (J) (x) (G) (0) (zk)) 44 :: blk (p15) (kc (K1)) 23 :: blk (w.heap.size) (pkc (0) (⟨#[]⟩) (⟨#[]⟩) (0) (zk)) 44 :: blk (p) (rsc (s) (P) (J)) 36 :: R) := hM
      refine hK16 _ _ ?_
      (try clear hK16 K16)
      refine wp_seq_k (fun K19 hK19 => ?_)
      refine wp_seq_k (fun K20 hK20 => ?_)
      refine wl_region ?_
      refine wl_give rfl (g_fa 44 _ (p18) (0) (3) 3 rfl (faPk3 _ _ _) ?_)
      (try simp only [Act.put, st_a, st_0, st_s])
      refine wl_give rfl (g_ld1 3 _ (p18) (3) _ rfl (ld3 _ _ _ _ ((hM.get 0 rfl).cell (3) _ (rfl))) ?_)
      (try simp only [Act.put, st_a, st_0, st_s])
      refine wl_give rfl (g_igtr 3 _ _ .i64 (0) (0) false rfl rfl (decide_eq_false (by decide)) ?_)
      (try simp only [Act.put, st_a, st_0, st_s])
      refine wl_nil ?_
      refine hK20 _ _ ?_
      (try clear hK20 K20)
      refine wp_cond_false rfl ?_
      refine wp_skip ?_
      refine hK19 _ _ ?_
      (try clear hK19 K19)
      refine wp_seq_k (fun K21 hK21 => ?_)
      refine wl_region ?_
      refine wl_give rfl (g_load_all 44 _ (p18) (pkc (J) (x) (G) (0) (zk)) 44 _ rfl (hM.get 0 rfl) Tryd.underlying44 rfl (szPk _ _ _ _ _) ?_)
      (try simp only [Act.put, st_a, st_0, st_s])
      refine wl_give rfl (g_store_all 44 _ _ (w.heap.size) (pkc (J) (x) (G) (0) (zk)) _ 44 rfl rfl (hM.get 2 rfl) (szPk _ _ _ _ _) (kk2_len _ _ _ _ _ _ _ _ _ _) (one_pkc _ _ _ _ _) ?_)
      intro w22 t_ b_
      replace hM : Ms w0 w22 (blk (p18) (pkc (J) (x) (G) (0) (zk)) 44 :: blk (p15) (kc (K1)) 23 :: blk (w.heap.size) (pkc (J) (x) (G) (0) (zk)) 44 :: blk (p) (rsc (s) (P) (J)) 36 :: R) := hM.put 2 rfl t_ b_
      clear t_ b_
      (try simp only [Act.put, st_a, st_0, st_s])
      refine wl_give rfl (g_assign _ (.int .i64 (0)) rfl ?_)
      (try simp only [Act.put, st_a, st_0, st_s])
      refine wl_nil ?_
      refine hK21 _ _ ?_
      (try clear hK21 K21)
      refine wp_ret ?_
      (try simp only [Exit.inBlock, Exit.then])
      exact bodyPost_ret (results_blk_tmp rfl _ (pkc (J) (x) (G) (0) (zk)) (.int .i64 (0)) _ rfl rfl (hM.get 2 rfl) Tryd.underlying44 rfl (szPk _ _ _ _ _)) rfl ⟨rfl, ((((hM.erase 0).erase 0).erase 0).up 0 rfl)⟩
set_option maxHeartbeats 4000000 in
theorem rsend_told {w0 w : World} {R : List HP} {p : Nat} {s : Ky} {P : Pl} {l t : Int} (x : ByteArray) (J : Int) (K1 : Ky) (hK1 : Shut (ky s P.ct J = (K1, 0))) (G : ByteArray) (hG : Shut (tgs K1 J x = G)) (T : Int) (hTe : Shut (pte P J = T)) (hM : Ms w0 w (blk p (rsc s P (l)) 36 :: R)) (hP : POk P) (hl0 : 0 ≤ l) (hl1 : l ≤ P.ct) (hpat : Shut (pat P t = (J, 0))) (hJ : ¬ J < l) (hx : ¬ 1000 < ((x.size : Nat) : Int)) (hT0 : 0 < T) (K2 : Ky) (hK2 : Shut (ky s P.ct T = (K2, 0))) : Calls Tryd.prog 16 #[.pointer (some ⟨p, 0, none⟩), .int .i64 t, .string x] w fun e w' => e = .returned (.tuple #[.agg (pkc J x G T K2).toArray, .int .i64 0]) ∧ Ms w0 w' (blk p (rsc s P (J)) 36 :: R) := by
  go_enter Tryd.func16, Tryd.ntmps16
  refine wp_seq_k (fun K1 hK1 => ?_)
  refine wl_region ?_
  refine wl_give rfl (g_alloc 44 (pkc (0) (⟨#[]⟩) (⟨#[]⟩) (0) (zk)) zeroPk ?_)
  intro w2 t_ b_
  replace hM := hM.new t_ b_
  clear t_ b_
  (try simp only [Act.put, st_a, st_0, st_s])
  refine wl_give rfl (g_assign _ (.int .i64 (0)) rfl ?_)
  (try simp only [Act.put, st_a, st_0, st_s])
  refine wl_nil ?_
  refine hK1 _ _ ?_
  (try clear hK1 K1)
  refine wp_seq_k (fun K3 hK3 => ?_)
  refine wl_region ?_
  refine wl_give rfl (g_move _ (.pointer (some ⟨p, 0, none⟩)) rfl ?_)
  (try simp only [Act.put, st_a, st_0, st_s])
  refine wl_give rfl (g_nil _ ⟨p, 0, none⟩ rfl ?_)
  (try simp only [Act.put, st_a, st_0, st_s])
  refine wl_give rfl (g_fa 36 _ (p) (0) (32) 1 rfl (faRs1 _ _ _) ?_)
  (try simp only [Act.put, st_a, st_0, st_s])
  refine wl_give rfl (g_load 34 _ (p) (32) 4 _ 36 _ rfl (hM.get 1 rfl) Tryd.underlying34 rfl sizeRP (by rw [rsc_length]; decide) (plc (P)) (rs_plan _ _ _) ?_)
  (try simp only [Act.put, st_a, st_0, st_s])
  refine wl_give rfl (g_move _ (.int .i64 (t)) rfl ?_)
  (try simp only [Act.put, st_a, st_0, st_s])
  refine wl_give rfl (g_call 34 _ _ [.agg (plc (P)).toArray, .int .i64 (t)] (kf34 _ _) rfl ((rat_any P t w2 (J) (0) hpat).mono ?_))
  rintro e w4 ⟨rfl, t_⟩
  refine ⟨_, rfl, ?_⟩
  replace hM := hM.call t_
  clear t_
  (try simp only [Act.put, st_a, st_0, st_s])
  refine wl_give rfl (g_move _ (.tuple #[.int .i64 (J), .int .i64 (0)]) rfl ?_)
  (try simp only [Act.put, st_a, st_0, st_s])
  refine wl_give rfl (g_extract _ #[.int .i64 (J), .int .i64 (0)] 0 (.int .i64 (J)) rfl rfl ?_)
  (try simp only [Act.put, st_a, st_0, st_s])
  refine wl_give rfl (g_extract _ #[.int .i64 (J), .int .i64 (0)] 1 (.int .i64 (0)) rfl rfl ?_)
  (try simp only [Act.put, st_a, st_0, st_s])
  refine wl_give rfl (g_assign _ (.int .i64 (J)) rfl ?_)
  (try simp only [Act.put, st_a, st_0, st_s])
  refine wl_give rfl (g_assign _ (.int .i64 (0)) rfl ?_)
  (try simp only [Act.put, st_a, st_0, st_s])
  refine wl_nil ?_
  refine hK3 _ _ ?_
  (try clear hK3 K3)
  refine wp_seq_k (fun K5 hK5 => ?_)
  refine wp_seq_k (fun K6 hK6 => ?_)
  refine wl_region ?_
  refine wl_give rfl (g_move _ (.int .i64 (0)) rfl ?_)
  (try simp only [Act.put, st_a, st_0, st_s])
  refine wl_give rfl (g_ine 29 _ _ .i64 (0) (0) false rfl rfl (by decide) ?_)
  (try simp only [Act.put, st_a, st_0, st_s])
  refine wl_nil ?_
  refine hK6 _ _ ?_
  (try clear hK6 K6)
  refine wp_cond_false rfl ?_
  refine wp_skip ?_
  refine hK5 _ _ ?_
  (try clear hK5 K5)
  refine wp_seq_k (fun K7 hK7 => ?_)
  refine wp_seq_k (fun K8 hK8 => ?_)
  refine wl_region ?_
  refine wl_give rfl (g_move _ (.int .i64 (J)) rfl ?_)
  (try simp only [Act.put, st_a, st_0, st_s])
  refine wl_give rfl (g_move _ (.pointer (some ⟨p, 0, none⟩)) rfl ?_)
  (try simp only [Act.put, st_a, st_0, st_s])
  refine wl_give rfl (g_nil _ ⟨p, 0, none⟩ rfl ?_)
  (try simp only [Act.put, st_a, st_0, st_s])
  refine wl_give rfl (g_fa 36 _ (p) (0) (36) 2 rfl (faRs2 _ _ _) ?_)
  (try simp only [Act.put, st_a, st_0, st_s])
  refine wl_give rfl (g_ld1 3 _ (p) (36) _ rfl (ld3 _ _ _ _ ((hM.get 1 rfl).cell (36) _ (rs_last _ _ _))) ?_)
  (try simp only [Act.put, st_a, st_0, st_s])
  refine wl_give rfl (g_ilss 3 _ _ .i64 (J) (l) false rfl rfl (decide_eq_false hJ) ?_)
  (try simp only [Act.put, st_a, st_0, st_s])
  refine wl_nil ?_
  refine hK8 _ _ ?_
  (try clear hK8 K8)
  refine wp_cond_false rfl ?_
  refine wp_skip ?_
  refine hK7 _ _ ?_
  (try clear hK7 K7)
  refine wp_seq_k (fun K9 hK9 => ?_)
  refine wp_seq_k (fun K10 hK10 => ?_)
  refine wl_region ?_
  refine wl_give rfl (g_move _ (.string (x)) rfl ?_)
  (try simp only [Act.put, st_a, st_0, st_s])
  refine wl_give rfl (g_lenT _ (x) ((((x).size : Nat) : Int)) rfl (rfl) ?_)
  (try simp only [Act.put, st_a, st_0, st_s])
  refine wl_give rfl (g_igtr 3 _ _ .i64 ((((x).size : Nat) : Int)) (1000) false rfl rfl (decide_eq_false hx) ?_)
  (try simp only [Act.put, st_a, st_0, st_s])
  refine wl_nil ?_
  refine hK10 _ _ ?_
  (try clear hK10 K10)
  refine wp_cond_false rfl ?_
  refine wp_skip ?_
  refine hK9 _ _ ?_
  (try clear hK9 K9)
  refine wp_seq_k (fun K11 hK11 => ?_)
  refine wl_region ?_
  refine wl_give rfl (g_move _ (.pointer (some ⟨p, 0, none⟩)) rfl ?_)
  (try simp only [Act.put, st_a, st_0, st_s])
  refine wl_give rfl (g_move _ (.int .i64 (J)) rfl ?_)
  (try simp only [Act.put, st_a, st_0, st_s])
  refine wl_give rfl (g_nil _ ⟨p, 0, none⟩ rfl ?_)
  (try simp only [Act.put, st_a, st_0, st_s])
  refine wl_give rfl (g_fa 36 _ (p) (0) (36) 2 rfl (faRs2 _ _ _) ?_)
  (try simp only [Act.put, st_a, st_0, st_s])
  refine wl_give rfl (g_st1 3 _ _ (p) (36) (.int .i64 (J)) _ 36 rfl rfl (hM.get 1 rfl) (by rw [rsc_length]; decide) rfl rfl size3 ?_)
  intro w12 t_ b_
  replace hM : Ms w0 w12 (blk (w.heap.size) (pkc (0) (⟨#[]⟩) (⟨#[]⟩) (0) (zk)) 44 :: blk (p) (rsc (s) (P) (J)) 36 :: R) := hM.put 1 rfl t_ (rs_put _ _ _ _ ▸ b_)
  clear t_ b_
  (try simp only [Act.put, st_a, st_0, st_s])
  refine wl_nil ?_
  refine hK11 _ _ ?_
  (try clear hK11 K11)
  refine wp_seq_k (fun K13 hK13 => ?_)
  refine wp_region_steps (by kernel_rfl) (by kernel_rfl) [14, 15] [0, 0, 0, 0, 0, 0, 0, 0, 0, 0, 0, 0, 0, 0, 0, 1, 2] [1, 1, 1, 1, 1, 1, 1, 1, 1, 1, 1, 1, 1, 2, 1, 2, 2] (by kernel_rfl) (Pm := Nat) (fun π => [.pointer (some ⟨p, 0, none⟩), .pointer (some ⟨p, 0, none⟩), .pointer (some ⟨p, 0, none⟩), .agg (kc (s)).toArray, .pointer (some ⟨p, 0, none⟩), .pointer (some ⟨p, 0, none⟩), .pointer (some ⟨p, 32, none⟩), .pointer (some ⟨p, 32 + 3, none⟩), .int .i64 ((P).ct), .int .i64 (J), .tuple #[.agg (kc (K1)).toArray, .int .i64 (0)], .tuple #[.agg (kc (K1)).toArray, .int .i64 (0)], .agg (kc (K1)).toArray, .int .i64 (0), .pointer (some ⟨π, 0, none⟩), undef, .int .i64 (0)]) (fun _ => by rfl) (fun j_ π wx => match j_ with | 0 => Ms w0 wx (blk (w.heap.size) (pkc (0) (⟨#[]⟩) (⟨#[]⟩) (0) (zk)) 44 :: blk (p) (rsc (s) (P) (J)) 36 :: R) | 1 => Ms w0 wx (blk (π) (kc (zk)) 23 :: blk (w.heap.size) (pkc (0) (⟨#[]⟩) (⟨#[]⟩) (0) (zk)) 44 :: blk (p) (rsc (s) (P) (J)) 36 :: R) | _ => Ms w0 wx (blk (π) (kc (K1)) 23 :: blk (w.heap.size) (pkc (0) (⟨#[]⟩) (⟨#[]⟩) (0) (zk)) 44 :: blk (p) (rsc (s) (P) (J)) 36 :: R)) (0) hM.drew ?_ ?_ ?_
  · intro j_ k_ o_ hj_ ho_ π wx hM
    rcases j_ with _ | _ | j_
    · obtain rfl := Option.some.inj hj_
      obtain rfl := Option.some.inj ho_
      simp only [fullL, Act.put, st_a, st_s, st_0]
      replace hM : Ms w0 wx (blk (w.heap.size) (pkc (0) (⟨#[]⟩) (⟨#[]⟩) (0) (zk)) 44 :: blk (p) (rsc (s) (P) (J)) 36 :: R) := hM
      exact gw rfl (g_alloc 23 (kc (zk)) zeroK (fun w' t_ b_ => ⟨(wx.heap.size), rfl, fun i h1 h2 => by rcases i with _ | _ | _ | _ | _ | _ | _ | _ | _ | _ | _ | _ | _ | _ | _ | _ | _ | i <;> first | rfl | trivial | exact absurd rfl h2 | exact absurd h1 (by decide), hM.new t_ b_⟩))
    · obtain rfl := Option.some.inj hj_
      obtain rfl := Option.some.inj ho_
      simp only [fullL, Act.put, st_a, st_s, st_0]
      replace hM : Ms w0 wx (blk (π) (kc (zk)) 23 :: blk (w.heap.size) (pkc (0) (⟨#[]⟩) (⟨#[]⟩) (0) (zk)) 44 :: blk (p) (rsc (s) (P) (J)) 36 :: R) := hM
      exact gw rfl (g_store_all 23 _ _ (π) (kc (K1)) _ 23 rfl rfl (hM.get 0 rfl) (szK _) (kk_len _ _) (one_kc _) (fun w' t_ b_ => ⟨(π), rfl, fun i h1 h2 => by rcases i with _ | _ | _ | _ | _ | _ | _ | _ | _ | _ | _ | _ | _ | _ | _ | _ | _ | i <;> first | rfl | trivial | exact absurd rfl h2 | exact absurd h1 (by decide), hM.put 0 rfl t_ b_⟩))
    · simp at hj_
  · intro i_ o_ ho_ hi_ j_ hd_ hh_ hj_ π wx hM
    simp only [fullL, Act.put, st_a, st_s, st_0]
    rcases i_ with _ | _ | _ | _ | _ | _ | _ | _ | _ | _ | _ | _ | _ | _ | _ | _ | _ | i_
    · obtain rfl := Option.some.inj ho_
      exact gw rfl (g_move _ (.pointer (some ⟨p, 0, none⟩)) rfl ⟨rfl, hM⟩)
    · obtain rfl := Option.some.inj ho_
      exact gw rfl (g_nil _ ⟨p, 0, none⟩ rfl ⟨rfl, hM⟩)
    · obtain rfl := Option.some.inj ho_
      exact gw rfl (g_fa 36 _ (p) (0) (0) 0 rfl (faRs0 _ _ _) ⟨rfl, hM⟩)
    · obtain rfl := Option.some.inj ho_
      rcases j_ with _ | _ | _ | j_
      · replace hM : Ms w0 wx (blk (w.heap.size) (pkc (0) (⟨#[]⟩) (⟨#[]⟩) (0) (zk)) 44 :: blk (p) (rsc (s) (P) (J)) 36 :: R) := hM
        exact gw rfl (g_load 23 _ (p) (0) 32 _ 36 _ rfl (hM.get 1 rfl) Tryd.underlying23 rfl size23 (by rw [rsc_length]; decide) (kc (s)) (rs_seed _ _ _) ⟨rfl, hM⟩)
      · replace hM : Ms w0 wx (blk (π) (kc (zk)) 23 :: blk (w.heap.size) (pkc (0) (⟨#[]⟩) (⟨#[]⟩) (0) (zk)) 44 :: blk (p) (rsc (s) (P) (J)) 36 :: R) := hM
        exact gw rfl (g_load 23 _ (p) (0) 32 _ 36 _ rfl (hM.get 2 rfl) Tryd.underlying23 rfl size23 (by rw [rsc_length]; decide) (kc (s)) (rs_seed _ _ _) ⟨rfl, hM⟩)
      · exact absurd hh_ (by decide)
      · exact absurd hj_ (by simp)
    · obtain rfl := Option.some.inj ho_
      exact gw rfl (g_move _ (.pointer (some ⟨p, 0, none⟩)) rfl ⟨rfl, hM⟩)
    · obtain rfl := Option.some.inj ho_
      exact gw rfl (g_nil _ ⟨p, 0, none⟩ rfl ⟨rfl, hM⟩)
    · obtain rfl := Option.some.inj ho_
      exact gw rfl (g_fa 36 _ (p) (0) (32) 1 rfl (faRs1 _ _ _) ⟨rfl, hM⟩)
    · obtain rfl := Option.some.inj ho_
      exact gw rfl (g_fa 34 _ (p) (32) (32 + 3) 3 rfl (faRp3 _ _ _) ⟨rfl, hM⟩)
    · obtain rfl := Option.some.inj ho_
      rcases j_ with _ | _ | _ | j_
      · replace hM : Ms w0 wx (blk (w.heap.size) (pkc (0) (⟨#[]⟩) (⟨#[]⟩) (0) (zk)) 44 :: blk (p) (rsc (s) (P) (J)) 36 :: R) := hM
        exact gw rfl (g_ld1 3 _ (p) (32 + 3) _ rfl (ld3 _ _ _ _ ((hM.get 1 rfl).cell (32 + 3) _ (rs_ct _ _ _))) ⟨rfl, hM⟩)
      · replace hM : Ms w0 wx (blk (π) (kc (zk)) 23 :: blk (w.heap.size) (pkc (0) (⟨#[]⟩) (⟨#[]⟩) (0) (zk)) 44 :: blk (p) (rsc (s) (P) (J)) 36 :: R) := hM
        exact gw rfl (g_ld1 3 _ (p) (32 + 3) _ rfl (ld3 _ _ _ _ ((hM.get 2 rfl).cell (32 + 3) _ (rs_ct _ _ _))) ⟨rfl, hM⟩)
      · exact absurd hh_ (by decide)
      · exact absurd hj_ (by simp)
    · obtain rfl := Option.some.inj ho_
      exact gw rfl (g_move _ (.int .i64 (J)) rfl ⟨rfl, hM⟩)
    · obtain rfl := Option.some.inj ho_
      rcases j_ with _ | _ | _ | j_
      · replace hM : Ms w0 wx (blk (w.heap.size) (pkc (0) (⟨#[]⟩) (⟨#[]⟩) (0) (zk)) 44 :: blk (p) (rsc (s) (P) (J)) 36 :: R) := hM
        exact gw rfl (g_call 18 _ _ [.agg (kc (s)).toArray, .int .i64 ((P).ct), .int .i64 (J)] (kf18 _ _) rfl ((rckey_any s P.ct J wx K1 0 hK1).mono (fun _ _ ⟨h1_, h2_⟩ => ⟨_, h1_, rfl, hM.call h2_⟩)))
      · replace hM : Ms w0 wx (blk (π) (kc (zk)) 23 :: blk (w.heap.size) (pkc (0) (⟨#[]⟩) (⟨#[]⟩) (0) (zk)) 44 :: blk (p) (rsc (s) (P) (J)) 36 :: R) := hM
        exact gw rfl (g_call 18 _ _ [.agg (kc (s)).toArray, .int .i64 ((P).ct), .int .i64 (J)] (kf18 _ _) rfl ((rckey_any s P.ct J wx K1 0 hK1).mono (fun _ _ ⟨h1_, h2_⟩ => ⟨_, h1_, rfl, hM.call h2_⟩)))
      · exact absurd hh_ (by decide)
      · exact absurd hj_ (by simp)
    · obtain rfl := Option.some.inj ho_
      exact gw rfl (g_move _ (.tuple #[.agg (kc (K1)).toArray, .int .i64 (0)]) rfl ⟨rfl, hM⟩)
    · obtain rfl := Option.some.inj ho_
      exact gw rfl (g_extract _ #[.agg (kc (K1)).toArray, .int .i64 (0)] 0 (.agg (kc (K1)).toArray) rfl rfl ⟨rfl, hM⟩)
    · obtain rfl := Option.some.inj ho_
      exact gw rfl (g_extract _ #[.agg (kc (K1)).toArray, .int .i64 (0)] 1 (.int .i64 (0)) rfl rfl ⟨rfl, hM⟩)
    · exact absurd (by decide) hi_
    · exact absurd (by decide) hi_
    · obtain rfl := Option.some.inj ho_
      exact gw rfl (g_assign _ (.int .i64 (0)) rfl ⟨rfl, hM⟩)
    · simp at ho_
  · simp only [fullL, Act.put, st_a, st_s, st_0]
    rintro p15 w14 hM
    replace hM : Ms w0 w14 (blk (p15) (kc (K1)) 23 :: blk (w.heap.size) (pkc (0) (⟨#[]⟩) (⟨#[]⟩) (0) (zk)) 44 :: blk (p) (rsc (s) (P) (J)) 36 :: R) := hM
    refine hK13 _ _ ?_
    (try clear hK13 K13)
    refine wp_seq_k (fun K16 hK16 => ?_)
    refine wp_region_steps (by kernel_rfl) (by kernel_rfl) [13, 14] [0, 0, 0, 0, 0, 0, 0, 0, 0, 0, 0, 0, 0, 0, 1] [1, 1, 1, 1, 1, 1, 1, 1, 1, 1, 1, 1, 1, 1, 2] (by kernel_rfl) (Pm := Nat) (fun π => [.int .i64 (J), .string (x), .agg (kc (K1)).toArray, .int .i64 (J), .string (x), .string (G), .pointer (some ⟨p, 0, none⟩), .pointer (some ⟨p, 0, none⟩), .pointer (some ⟨p, 32, none⟩), .agg (plc (P)).toArray, .int .i64 (J), .int .i64 (T), .agg (pkc (J) (x) (G) (T) (zk)).toArray, .pointer (some ⟨π, 0, none⟩), undef]) (fun _ => by rfl) (fun j_ π wx => match j_ with | 0 => Ms w0 wx (blk (p15) (kc (K1)) 23 :: blk (w.heap.size) (pkc (0) (⟨#[]⟩) (⟨#[]⟩) (0) (zk)) 44 :: blk (p) (rsc (s) (P) (J)) 36 :: R) | 1 => Ms w0 wx (blk (π) (pkc (0) (⟨#[]⟩) (⟨#[]⟩) (0) (zk)) 44 :: blk (p15) (kc (K1)) 23 :: blk (w.heap.size) (pkc (0) (⟨#[]⟩) (⟨#[]⟩) (0) (zk)) 44 :: blk (p) (rsc (s) (P) (J)) 36 :: R) | _ => Ms w0 wx (blk (π) (pkc (J) (x) (G) (T) (zk)) 44 :: blk (p15) (kc (K1)) 23 :: blk (w.heap.size) (pkc (0) (⟨#[]⟩) (⟨#[]⟩) (0) (zk)) 44 :: blk (p) (rsc (s) (P) (J)) 36 :: R)) (0) hM.drew ?_ ?_ ?_
    · intro j_ k_ o_ hj_ ho_ π wx hM
      rcases j_ with _ | _ | j_
      · obtain rfl := Option.some.inj hj_
        obtain rfl := Option.some.inj ho_
        simp only [fullL, Act.put, st_a, st_s, st_0]
        replace hM : Ms w0 wx (blk (p15) (kc (K1)) 23 :: blk (w.heap.size) (pkc (0) (⟨#[]⟩) (⟨#[]⟩) (0) (zk)) 44 :: blk (p) (rsc (s) (P) (J)) 36 :: R) := hM
        exact gw rfl (g_alloc 44 (pkc (0) (⟨#[]⟩) (⟨#[]⟩) (0) (zk)) zeroPk (fun w' t_ b_ => ⟨(wx.heap.size), rfl, fun i h1 h2 => by rcases i with _ | _ | _ | _ | _ | _ | _ | _ | _ | _ | _ | _ | _ | _ | _ | i <;> first | rfl | trivial | exact absurd rfl h2 | exact absurd h1 (by decide), hM.new t_ b_⟩))
      · obtain rfl := Option.some.inj hj_
        obtain rfl := Option.some.inj ho_
        simp only [fullL, Act.put, st_a, st_s, st_0]
        replace hM : Ms w0 wx (blk (π) (pkc (0) (⟨#[]⟩) (⟨#[]⟩) (0) (zk)) 44 :: blk (p15) (kc (K1)) 23 :: blk (w.heap.size) (pkc (0) (⟨#[]⟩) (⟨#[]⟩) (0) (zk)) 44 :: blk (p) (rsc (s) (P) (J)) 36 :: R) := hM
        exact gw rfl (g_store_all 44 _ _ (π) (pkc (J) (x) (G) (T) (zk)) _ 44 rfl rfl (hM.get 0 rfl) (szPk _ _ _ _ _) (kk2_len _ _ _ _ _ _ _ _ _ _) (one_pkc _ _ _ _ _) (fun w' t_ b_ => ⟨(π), rfl, fun i h1 h2 => by rcases i with _ | _ | _ | _ | _ | _ | _ | _ | _ | _ | _ | _ | _ | _ | _ | i <;> first | rfl | trivial | exact absurd rfl h2 | exact absurd h1 (by decide), hM.put 0 rfl t_ b_⟩))
      · simp at hj_
    · intro i_ o_ ho_ hi_ j_ hd_ hh_ hj_ π wx hM
      simp only [fullL, Act.put, st_a, st_s, st_0]
      rcases i_ with _ | _ | _ | _ | _ | _ | _ | _ | _ | _ | _ | _ | _ | _ | _ | i_
      · obtain rfl := Option.some.inj ho_
        exact gw rfl (g_move _ (.int .i64 (J)) rfl ⟨rfl, hM⟩)
      · obtain rfl := Option.some.inj ho_
        exact gw rfl (g_move _ (.string (x)) rfl ⟨rfl, hM⟩)
      · obtain rfl := Option.some.inj ho_
        rcases j_ with _ | _ | _ | j_
        · replace hM : Ms w0 wx (blk (p15) (kc (K1)) 23 :: blk (w.heap.size) (pkc (0) (⟨#[]⟩) (⟨#[]⟩) (0) (zk)) 44 :: blk (p) (rsc (s) (P) (J)) 36 :: R) := hM
          exact gw rfl (g_load_all 23 _ (p15) (kc (K1)) 23 _ rfl (hM.get 0 rfl) Tryd.underlying23 rfl (szK _) ⟨rfl, hM⟩)
        · replace hM : Ms w0 wx (blk (π) (pkc (0) (⟨#[]⟩) (⟨#[]⟩) (0) (zk)) 44 :: blk (p15) (kc (K1)) 23 :: blk (w.heap.size) (pkc (0) (⟨#[]⟩) (⟨#[]⟩) (0) (zk)) 44 :: blk (p) (rsc (s) (P) (J)) 36 :: R) := hM
          exact gw rfl (g_load_all 23 _ (p15) (kc (K1)) 23 _ rfl (hM.get 1 rfl) Tryd.underlying23 rfl (szK _) ⟨rfl, hM⟩)
        · exact absurd hh_ (by decide)
        · exact absurd hj_ (by simp)
      · obtain rfl := Option.some.inj ho_
        exact gw rfl (g_move _ (.int .i64 (J)) rfl ⟨rfl, hM⟩)
      · obtain rfl := Option.some.inj ho_
        exact gw rfl (g_move _ (.string (x)) rfl ⟨rfl, hM⟩)
      · obtain rfl := Option.some.inj ho_
        rcases j_ with _ | _ | _ | j_
        · replace hM : Ms w0 wx (blk (p15) (kc (K1)) 23 :: blk (w.heap.size) (pkc (0) (⟨#[]⟩) (⟨#[]⟩) (0) (zk)) 44 :: blk (p) (rsc (s) (P) (J)) 36 :: R) := hM
          exact gw rfl (g_call 20 _ _ [.agg (kc (K1)).toArray, .int .i64 (J), .string (x)] (kf20 _ _) rfl ((rtagS_any K1 J x wx (by omega) G hG).mono (fun _ _ ⟨h1_, h2_⟩ => ⟨_, h1_, rfl, hM.call h2_⟩)))
        · replace hM : Ms w0 wx (blk (π) (pkc (0) (⟨#[]⟩) (⟨#[]⟩) (0) (zk)) 44 :: blk (p15) (kc (K1)) 23 :: blk (w.heap.size) (pkc (0) (⟨#[]⟩) (⟨#[]⟩) (0) (zk)) 44 :: blk (p) (rsc (s) (P) (J)) 36 :: R) := hM
          exact gw rfl (g_call 20 _ _ [.agg (kc (K1)).toArray, .int .i64 (J), .string (x)] (kf20 _ _) rfl ((rtagS_any K1 J x wx (by omega) G hG).mono (fun _ _ ⟨h1_, h2_⟩ => ⟨_, h1_, rfl, hM.call h2_⟩)))
        · exact absurd hh_ (by decide)
        · exact absurd hj_ (by simp)
      · obtain rfl := Option.some.inj ho_
        exact gw rfl (g_move _ (.pointer (some ⟨p, 0, none⟩)) rfl ⟨rfl, hM⟩)
      · obtain rfl := Option.some.inj ho_
        exact gw rfl (g_nil _ ⟨p, 0, none⟩ rfl ⟨rfl, hM⟩)
      · obtain rfl := Option.some.inj ho_
        exact gw rfl (g_fa 36 _ (p) (0) (32) 1 rfl (faRs1 _ _ _) ⟨rfl, hM⟩)
      · obtain rfl := Option.some.inj ho_
        rcases j_ with _ | _ | _ | j_
        · replace hM : Ms w0 wx (blk (p15) (kc (K1)) 23 :: blk (w.heap.size) (pkc (0) (⟨#[]⟩) (⟨#[]⟩) (0) (zk)) 44 :: blk (p) (rsc (s) (P) (J)) 36 :: R) := hM
          exact gw rfl (g_load 34 _ (p) (32) 4 _ 36 _ rfl (hM.get 2 rfl) Tryd.underlying34 rfl sizeRP (by rw [rsc_length]; decide) (plc (P)) (rs_plan _ _ _) ⟨rfl, hM⟩)
        · replace hM : Ms w0 wx (blk (π) (pkc (0) (⟨#[]⟩) (⟨#[]⟩) (0) (zk)) 44 :: blk (p15) (kc (K1)) 23 :: blk (w.heap.size) (pkc (0) (⟨#[]⟩) (⟨#[]⟩) (0) (zk)) 44 :: blk (p) (rsc (s) (P) (J)) 36 :: R) := hM
          exact gw rfl (g_load 34 _ (p) (32) 4 _ 36 _ rfl (hM.get 3 rfl) Tryd.underlying34 rfl sizeRP (by rw [rsc_length]; decide) (plc (P)) (rs_plan _ _ _) ⟨rfl, hM⟩)
        · exact absurd hh_ (by decide)
        · exact absurd hj_ (by simp)
      · obtain rfl := Option.some.inj ho_
        exact gw rfl (g_move _ (.int .i64 (J)) rfl ⟨rfl, hM⟩)
      · obtain rfl := Option.some.inj ho_
        rcases j_ with _ | _ | _ | j_
        · replace hM : Ms w0 wx (blk (p15) (kc (K1)) 23 :: blk (w.heap.size) (pkc (0) (⟨#[]⟩) (⟨#[]⟩) (0) (zk)) 44 :: blk (p) (rsc (s) (P) (J)) 36 :: R) := hM
          exact gw rfl (g_call 35 _ _ [.agg (plc (P)).toArray, .int .i64 (J)] (kf35 _ _) rfl ((rtells_any P J wx T hTe).mono (fun _ _ ⟨h1_, h2_⟩ => ⟨_, h1_, rfl, hM.call h2_⟩)))
        · replace hM : Ms w0 wx (blk (π) (pkc (0) (⟨#[]⟩) (⟨#[]⟩) (0) (zk)) 44 :: blk (p15) (kc (K1)) 23 :: blk (w.heap.size) (pkc (0) (⟨#[]⟩) (⟨#[]⟩) (0) (zk)) 44 :: blk (p) (rsc (s) (P) (J)) 36 :: R) := hM
          exact gw rfl (g_call 35 _ _ [.agg (plc (P)).toArray, .int .i64 (J)] (kf35 _ _) rfl ((rtells_any P J wx T hTe).mono (fun _ _ ⟨h1_, h2_⟩ => ⟨_, h1_, rfl, hM.call h2_⟩)))
        · exact absurd hh_ (by decide)
        · exact absurd hj_ (by simp)
      · obtain rfl := Option.some.inj ho_
        exact gw rfl (g_bldPk4 _ _ _ _ (J) (x) (G) (T) rfl rfl rfl rfl ⟨rfl, hM⟩)
      · exact absurd (by decide) hi_
      · exact absurd (by decide) hi_
      · simp at ho_
    · simp only [fullL, Act.put, st_a, st_s, st_0]
      rintro p18 w17 hM
      replace hM : Ms w0 w17 (blk (p18) (pkc (J) (x) (G) (T) (zk)) 44 :: blk (p15) (kc (K1)) 23 :: blk (w.heap.size) (pkc (0) (⟨#[]⟩) (⟨#[]⟩) (0) (zk)) 44 :: blk (p) (rsc (s) (P) (J)) 36 :: R) := hM
      refine hK16 _ _ ?_
      (try clear hK16 K16)
      refine wp_seq_k (fun K19 hK19 => ?_)
      refine wp_seq_k (fun K20 hK20 => ?_)
      refine wl_region ?_
      refine wl_give rfl (g_fa 44 _ (p18) (0) (3) 3 rfl (faPk3 _ _ _) ?_)
      (try simp only [Act.put, st_a, st_0, st_s])
      refine wl_give rfl (g_ld1 3 _ (p18) (3) _ rfl (ld3 _ _ _ _ ((hM.get 0 rfl).cell (3) _ (rfl))) ?_)
      (try simp only [Act.put, st_a, st_0, st_s])
      refine wl_give rfl (g_igtr 3 _ _ .i64 (T) (0) true rfl rfl (decide_eq_true hT0) ?_)
      (try simp only [Act.put, st_a, st_0, st_s])
      refine wl_nil ?_
      refine hK20 _ _ ?_
      (try clear hK20 K20)
      refine wp_cond_true rfl ?_
      refine wp_region_steps (by kernel_rfl) (by kernel_rfl) [16] [0, 0, 0, 0, 0, 0, 0, 0, 0, 0, 0, 0, 0, 0, 0, 0, 0] [0, 0, 0, 0, 0, 0, 0, 0, 0, 0, 0, 0, 0, 0, 1, 0, 1] (by kernel_rfl) (Pm := Unit) (fun π => [.pointer (some ⟨p, 0, none⟩), .pointer (some ⟨p, 0, none⟩), .pointer (some ⟨p, 0, none⟩), .agg (kc (s)).toArray, .pointer (some ⟨p, 0, none⟩), .pointer (some ⟨p, 0, none⟩), .pointer (some ⟨p, 32, none⟩), .pointer (some ⟨p, 32 + 3, none⟩), .int .i64 ((P).ct), .pointer (some ⟨p18, 3, none⟩), .int .i64 (T), .tuple #[.agg (kc (K2)).toArray, .int .i64 (0)], .tuple #[.agg (kc (K2)).toArray, .int .i64 (0)], .agg (kc (K2)).toArray, .int .i64 (0), .pointer (some ⟨p18, 4, none⟩), undef]) (fun _ => by rfl) (fun j_ π wx => match j_ with | 0 => Ms w0 wx (blk (p18) (pkc (J) (x) (G) (T) (zk)) 44 :: blk (p15) (kc (K1)) 23 :: blk (w.heap.size) (pkc (0) (⟨#[]⟩) (⟨#[]⟩) (0) (zk)) 44 :: blk (p) (rsc (s) (P) (J)) 36 :: R) | _ => Ms w0 wx (blk (p18) (pkc (J) (x) (G) (T) (K2)) 44 :: blk (p15) (kc (K1)) 23 :: blk (w.heap.size) (pkc (0) (⟨#[]⟩) (⟨#[]⟩) (0) (zk)) 44 :: blk (p) (rsc (s) (P) (J)) 36 :: R)) () hM.drew ?_ ?_ ?_
      · intro j_ k_ o_ hj_ ho_ π wx hM
        rcases j_ with _ | j_
        · obtain rfl := Option.some.inj hj_
          obtain rfl := Option.some.inj ho_
          simp only [fullL, Act.put, st_a, st_s, st_0]
          replace hM : Ms w0 wx (blk (p18) (pkc (J) (x) (G) (T) (zk)) 44 :: blk (p15) (kc (K1)) 23 :: blk (w.heap.size) (pkc (0) (⟨#[]⟩) (⟨#[]⟩) (0) (zk)) 44 :: blk (p) (rsc (s) (P) (J)) 36 :: R) := hM
          exact gw rfl (g_storeN 23 _ _ (p18) (4) (kc (K2)) _ 44 (pkc (J) (x) (G) (T) (K2)) rfl rfl (hM.get 0 rfl) (szK _) (by rw [kc_length, pkc_length]; decide) (one_kc _) (pk_put _ _ _ _ _ _) (fun w' t_ b_ => ⟨(), rfl, (fun _ _ _ => by first | rfl | trivial), hM.put 0 rfl t_ b_⟩))
        · simp at hj_
      · intro i_ o_ ho_ hi_ j_ hd_ hh_ hj_ π wx hM
        simp only [fullL, Act.put, st_a, st_s, st_0]
        rcases i_ with _ | _ | _ | _ | _ | _ | _ | _ | _ | _ | _ | _ | _ | _ | _ | _ | _ | i_
        · obtain rfl := Option.some.inj ho_
          exact gw rfl (g_move _ (.pointer (some ⟨p, 0, none⟩)) rfl ⟨rfl, hM⟩)
        · obtain rfl := Option.some.inj ho_
          exact gw rfl (g_nil _ ⟨p, 0, none⟩ rfl ⟨rfl, hM⟩)
        · obtain rfl := Option.some.inj ho_
          exact gw rfl (g_fa 36 _ (p) (0) (0) 0 rfl (faRs0 _ _ _) ⟨rfl, hM⟩)
        · obtain rfl := Option.some.inj ho_
          rcases j_ with _ | _ | j_
          · replace hM : Ms w0 wx (blk (p18) (pkc (J) (x) (G) (T) (zk)) 44 :: blk (p15) (kc (K1)) 23 :: blk (w.heap.size) (pkc (0) (⟨#[]⟩) (⟨#[]⟩) (0) (zk)) 44 :: blk (p) (rsc (s) (P) (J)) 36 :: R) := hM
            exact gw rfl (g_load 23 _ (p) (0) 32 _ 36 _ rfl (hM.get 3 rfl) Tryd.underlying23 rfl size23 (by rw [rsc_length]; decide) (kc (s)) (rs_seed _ _ _) ⟨rfl, hM⟩)
          · exact absurd hh_ (by decide)
          · exact absurd hj_ (by simp)
        · obtain rfl := Option.some.inj ho_
          exact gw rfl (g_move _ (.pointer (some ⟨p, 0, none⟩)) rfl ⟨rfl, hM⟩)
        · obtain rfl := Option.some.inj ho_
          exact gw rfl (g_nil _ ⟨p, 0, none⟩ rfl ⟨rfl, hM⟩)
        · obtain rfl := Option.some.inj ho_
          exact gw rfl (g_fa 36 _ (p) (0) (32) 1 rfl (faRs1 _ _ _) ⟨rfl, hM⟩)
        · obtain rfl := Option.some.inj ho_
          exact gw rfl (g_fa 34 _ (p) (32) (32 + 3) 3 rfl (faRp3 _ _ _) ⟨rfl, hM⟩)
        · obtain rfl := Option.some.inj ho_
          rcases j_ with _ | _ | j_
          · replace hM : Ms w0 wx (blk (p18) (pkc (J) (x) (G) (T) (zk)) 44 :: blk (p15) (kc (K1)) 23 :: blk (w.heap.size) (pkc (0) (⟨#[]⟩) (⟨#[]⟩) (0) (zk)) 44 :: blk (p) (rsc (s) (P) (J)) 36 :: R) := hM
            exact gw rfl (g_ld1 3 _ (p) (32 + 3) _ rfl (ld3 _ _ _ _ ((hM.get 3 rfl).cell (32 + 3) _ (rs_ct _ _ _))) ⟨rfl, hM⟩)
          · exact absurd hh_ (by decide)
          · exact absurd hj_ (by simp)
        · obtain rfl := Option.some.inj ho_
          exact gw rfl (g_fa 44 _ (p18) (0) (3) 3 rfl (faPk3 _ _ _) ⟨rfl, hM⟩)
        · obtain rfl := Option.some.inj ho_
          rcases j_ with _ | _ | j_
          · replace hM : Ms w0 wx (blk (p18) (pkc (J) (x) (G) (T) (zk)) 44 :: blk (p15) (kc (K1)) 23 :: blk (w.heap.size) (pkc (0) (⟨#[]⟩) (⟨#[]⟩) (0) (zk)) 44 :: blk (p) (rsc (s) (P) (J)) 36 :: R) := hM
            exact gw rfl (g_ld1 3 _ (p18) (3) _ rfl (ld3 _ _ _ _ ((hM.get 0 rfl).cell (3) _ (rfl))) ⟨rfl, hM⟩)
          · exact absurd hh_ (by decide)
          · exact absurd hj_ (by simp)
        · obtain rfl := Option.some.inj ho_
          rcases j_ with _ | _ | j_
          · replace hM : Ms w0 wx (blk (p18) (pkc (J) (x) (G) (T) (zk)) 44 :: blk (p15) (kc (K1)) 23 :: blk (w.heap.size) (pkc (0) (⟨#[]⟩) (⟨#[]⟩) (0) (zk)) 44 :: blk (p) (rsc (s) (P) (J)) 36 :: R) := hM
            exact gw rfl (g_call 18 _ _ [.agg (kc (s)).toArray, .int .i64 ((P).ct), .int .i64 (T)] (kf18 _ _) rfl ((rckey_any s P.ct T wx K2 0 hK2).mono (fun _ _ ⟨h1_, h2_⟩ => ⟨_, h1_, rfl, hM.call h2_⟩)))
          · exact absurd hh_ (by decide)
          · exact absurd hj_ (by simp)
        · obtain rfl := Option.some.inj ho_
          exact gw rfl (g_move _ (.tuple #[.agg (kc (K2)).toArray, .int .i64 (0)]) rfl ⟨rfl, hM⟩)
        · obtain rfl := Option.some.inj ho_
          exact gw rfl (g_extract _ #[.agg (kc (K2)).toArray, .int .i64 (0)] 0 (.agg (kc (K2)).toArray) rfl rfl ⟨rfl, hM⟩)
        · obtain rfl := Option.some.inj ho_
          exact gw rfl (g_extract _ #[.agg (kc (K2)).toArray, .int .i64 (0)] 1 (.int .i64 (0)) rfl rfl ⟨rfl, hM⟩)
        · obtain rfl := Option.some.inj ho_
          exact gw rfl (g_fa 44 _ (p18) (0) (4) 4 rfl (faPk4 _ _ _) ⟨rfl, hM⟩)
        · exact absurd (by decide) hi_
        · simp at ho_
      · simp only [fullL, Act.put, st_a, st_s, st_0]
        rintro ⟨⟩ w21 hM
        replace hM : Ms w0 w21 (blk (p18) (pkc (J) (x) (G) (T) (K2)) 44 :: blk (p15) (kc (K1)) 23 :: blk (w.heap.size) (pkc (0) (⟨#[]⟩) (⟨#[]⟩) (0) (zk)) 44 :: blk (p) (rsc (s) (P) (J)) 36 :: R) := hM
        refine hK19 _ _ ?_
        (try clear hK19 K19)
        refine wp_seq_k (fun K22 hK22 => ?_)
        refine wl_region ?_
        refine wl_give rfl (g_load_all 44 _ (p18) (pkc (J) (x) (G) (T) (K2)) 44 _ rfl (hM.get 0 rfl) Tryd.underlying44 rfl (szPk _ _ _ _ _) ?_)
        (try simp only [Act.put, st_a, st_0, st_s])
        refine wl_give rfl (g_store_all 44 _ _ (w.heap.size) (pkc (J) (x) (G) (T) (K2)) _ 44 rfl rfl (hM.get 2 rfl) (szPk _ _ _ _ _) (kk2_len _ _ _ _ _ _ _ _ _ _) (one_pkc _ _ _ _ _) ?_)
        intro w23 t_ b_
        replace hM : Ms w0 w23 (blk (p18) (pkc (J) (x) (G) (T) (K2)) 44 :: blk (p15) (kc (K1)) 23 :: blk (w.heap.size) (pkc (J) (x) (G) (T) (K2)) 44 :: blk (p) (rsc (s) (P) (J)) 36 :: R) := hM.put 2 rfl t_ b_
        clear t_ b_
        (try simp only [Act.put, st_a, st_0, st_s])
        refine wl_give rfl (g_assign _ (.int .i64 (0)) rfl ?_)
        (try simp only [Act.put, st_a, st_0, st_s])
        refine wl_nil ?_
        refine hK22 _ _ ?_
        (try clear hK22 K22)
        refine wp_ret ?_
        (try simp only [Exit.inBlock, Exit.then])
        exact bodyPost_ret (results_blk_tmp rfl _ (pkc (J) (x) (G) (T) (K2)) (.int .i64 (0)) _ rfl rfl (hM.get 2 rfl) Tryd.underlying44 rfl (szPk _ _ _ _ _)) rfl ⟨rfl, ((((hM.erase 0).erase 0).erase 0).up 0 rfl)⟩
theorem rsend_any {w0 w : World} {R : List HP} {p : Nat} {s : Ky} {P : Pl} {l : Int} (hM : Ms w0 w (blk p (rsc s P (l)) 36 :: R)) (hP : POk P) (hl0 : 0 ≤ l) (hl1 : l ≤ P.ct) (t : Int) (x : ByteArray) (i' : Int) (x' g' : ByteArray) (t' : Int) (k' : Ky) (E l' : Int) (h : Shut (sdA s P l t x = ((⟨i', x', g', t', k'⟩, E), l'))) :
    Calls Tryd.prog 16 #[.pointer (some ⟨p, 0, none⟩), .int .i64 t, .string x] w fun e w' => e = .returned (.tuple #[.agg (pkc i' x' g' t' k').toArray, .int .i64 E]) ∧ Ms w0 w' (blk p (rsc s P (l')) 36 :: R) := by
  have h := h.out
  unfold sdA at h
  obtain ⟨J, E1, hpat⟩ : ∃ J E1, pat P t = (J, E1) := ⟨_, _, rfl⟩
  rw [hpat] at h
  by_cases hE : E1 ≠ 0
  · rw [if_pos hE] at h; cases h
    exact rsend_e x J _ hM hP hl0 hl1 ⟨hpat⟩ hE
  · rw [if_neg hE] at h
    obtain rfl : E1 = 0 := Decidable.not_not.1 hE
    by_cases hJ : J < l
    · rw [if_pos hJ] at h; cases h
      exact rsend_late x J hM hP hl0 hl1 ⟨hpat⟩ hJ
    · rw [if_neg hJ] at h
      by_cases hx : 1000 < x.size
      · rw [if_pos hx] at h; cases h
        exact rsend_size x J hM hP hl0 hl1 ⟨hpat⟩ hJ (by omega)
      · rw [if_neg hx] at h
        rcases pat_cases hP t with ⟨e, _⟩ | ⟨e, _⟩ | ⟨i, i1, i2, e, _⟩
        · rw [e] at hpat; cases hpat
        · rw [e] at hpat; cases hpat
        · rw [e] at hpat
          obtain rfl : ((i : Nat) : Int) = J := congrArg Prod.fst hpat
          have hte := pte_le hP (i := (i : Int)) (by omega) i2
          unfold sdP at h
          simp only [Prod.mk.injEq, Pk.mk.injEq] at h
          obtain ⟨⟨⟨rfl, rfl, rfl, rfl, rfl⟩, rfl⟩, rfl⟩ := h
          by_cases hT0 : 0 < pte P ((i : Nat) : Int)
          · rw [if_pos hT0]
            exact rsend_told x _ _ ⟨ky_kyk hP (by omega) i2⟩ _ ⟨rfl⟩ _ ⟨rfl⟩ hM hP hl0 hl1 ⟨e⟩ hJ (by omega) hT0 _ ⟨ky_kyk hP (by omega) (by omega)⟩
          · have z : pte P ((i : Nat) : Int) = 0 := by omega
            rw [if_neg hT0, z]
            exact rsend_none x _ _ ⟨ky_kyk hP (by omega) i2⟩ _ ⟨rfl⟩ ⟨z⟩ hM hP hl0 hl1 ⟨e⟩ hJ (by omega)
set_option maxHeartbeats 4000000 in
theorem rrenew_no {w0 w : World} {R : List HP} {p : Nat} {s : Ky} {P : Pl} {l : Int} (hM : Ms w0 w (blk p (rsc s P (l)) 36 :: R)) (hP : POk P) (Q : Pl) (E : Int) (hth : Shut (pth P = (Q, E))) (hE : E ≠ 0) : Calls Tryd.prog 14 #[.pointer (some ⟨p, 0, none⟩)] w fun e w' => e = .returned (.tuple #[.pointer none, .int .i64 E]) ∧ Ms w0 w' (blk p (rsc s P (l)) 36 :: R) := by
  go_enter Tryd.func14, Tryd.ntmps14
  refine wp_seq_k (fun K1 hK1 => ?_)
  refine wl_region ?_
  refine wl_give rfl (g_assign _ (.pointer none) rfl ?_)
  (try simp only [Act.put, st_a, st_0, st_s])
  refine wl_give rfl (g_assign _ (.int .i64 (0)) rfl ?_)
  (try simp only [Act.put, st_a, st_0, st_s])
  refine wl_nil ?_
  refine hK1 _ _ ?_
  (try clear hK1 K1)
  refine wp_seq_k (fun K2 hK2 => ?_)
  refine wl_region ?_
  refine wl_give rfl (g_move _ (.pointer (some ⟨p, 0, none⟩)) rfl ?_)
  (try simp only [Act.put, st_a, st_0, st_s])
  refine wl_give rfl (g_nil _ ⟨p, 0, none⟩ rfl ?_)
  (try simp only [Act.put, st_a, st_0, st_s])
  refine wl_give rfl (g_fa 36 _ (p) (0) (32) 1 rfl (faRs1 _ _ _) ?_)
  (try simp only [Act.put, st_a, st_0, st_s])
  refine wl_give rfl (g_load 34 _ (p) (32) 4 _ 36 _ rfl (hM.get 0 rfl) Tryd.underlying34 rfl sizeRP (by rw [rsc_length]; decide) (plc (P)) (rs_plan _ _ _) ?_)
  (try simp only [Act.put, st_a, st_0, st_s])
  refine wl_give rfl (g_call 30 _ _ [.agg (plc (P)).toArray] (kf30 _ _) rfl ((rthen_any P w hP.pin Q E hth).mono ?_))
  rintro e w3 ⟨rfl, t_⟩
  refine ⟨_, rfl, ?_⟩
  replace hM := hM.call t_
  clear t_
  (try simp only [Act.put, st_a, st_0, st_s])
  refine wl_give rfl (g_move _ (.tuple #[.agg (plc (Q)).toArray, .int .i64 (E)]) rfl ?_)
  (try simp only [Act.put, st_a, st_0, st_s])
  refine wl_give rfl (g_extract _ #[.agg (plc (Q)).toArray, .int .i64 (E)] 0 (.agg (plc (Q)).toArray) rfl rfl ?_)
  (try simp only [Act.put, st_a, st_0, st_s])
  refine wl_give rfl (g_extract _ #[.agg (plc (Q)).toArray, .int .i64 (E)] 1 (.int .i64 (E)) rfl rfl ?_)
  (try simp only [Act.put, st_a, st_0, st_s])
  refine wl_give rfl (g_alloc 34 (plc (pl0)) zeroRp ?_)
  intro w4 t_ b_
  replace hM := hM.new t_ b_
  clear t_ b_
  (try simp only [Act.put, st_a, st_0, st_s])
  refine wl_give rfl (g_store_all 34 _ _ (w3.heap.size) (plc (Q)) _ 34 rfl rfl (hM.get 0 rfl) (szRp _) (pp_len _ _) (one_plc _) ?_)
  intro w5 t_ b_
  replace hM : Ms w0 w5 (blk (w3.heap.size) (plc (Q)) 34 :: blk (p) (rsc (s) (P) (l)) 36 :: R) := hM.put 0 rfl t_ b_
  clear t_ b_
  (try simp only [Act.put, st_a, st_0, st_s])
  refine wl_give rfl (g_assign _ (.int .i64 (E)) rfl ?_)
  (try simp only [Act.put, st_a, st_0, st_s])
  refine wl_nil ?_
  refine hK2 _ _ ?_
  (try clear hK2 K2)
  refine wp_seq_k (fun K6 hK6 => ?_)
  refine wp_seq_k (fun K7 hK7 => ?_)
  refine wl_region ?_
  refine wl_give rfl (g_move _ (.int .i64 (E)) rfl ?_)
  (try simp only [Act.put, st_a, st_0, st_s])
  refine wl_give rfl (g_ine 29 _ _ .i64 (E) (0) true rfl rfl (decide_eq_true hE) ?_)
  (try simp only [Act.put, st_a, st_0, st_s])
  refine wl_nil ?_
  refine hK7 _ _ ?_
  (try clear hK7 K7)
  refine wp_cond_true rfl ?_
  refine wp_seq_k (fun K8 hK8 => ?_)
  refine wl_region ?_
  refine wl_give rfl (g_move _ (.int .i64 (E)) rfl ?_)
  (try simp only [Act.put, st_a, st_0, st_s])
  refine wl_give rfl (g_assign _ (.pointer none) rfl ?_)
  (try simp only [Act.put, st_a, st_0, st_s])
  refine wl_give rfl (g_assign _ (.int .i64 (E)) rfl ?_)
  (try simp only [Act.put, st_a, st_0, st_s])
  refine wl_nil ?_
  refine hK8 _ _ ?_
  (try clear hK8 K8)
  refine wp_ret ?_
  go_ret2
  exact ⟨rfl, ((hM.erase 0).up 0 rfl)⟩
set_option maxHeartbeats 4000000 in
theorem rrenew_o {w0 w : World} {R : List HP} {p : Nat} {s : Ky} {P : Pl} {l : Int} (hM : Ms w0 w (blk p (rsc s P (l)) 36 :: R)) (hP : POk P) (Q : Pl) (E : Int) (S2 : Ky) (hth : Shut (pth P = (Q, E))) (hE : E = 0) (hS2 : Shut (tg s ⟨#[115, 101, 101, 100]⟩ = S2)) : Calls Tryd.prog 14 #[.pointer (some ⟨p, 0, none⟩)] w fun e w' => ∃ p2, e = .returned (.tuple #[.pointer (some ⟨p2, 0, none⟩), .int .i64 0]) ∧ Ms w0 w' (blk p2 (rsc S2 Q 0) 36 :: blk p (rsc s P (l)) 36 :: R) := by
  go_enter Tryd.func14, Tryd.ntmps14
  refine wp_seq_k (fun K1 hK1 => ?_)
  refine wl_region ?_
  refine wl_give rfl (g_assign _ (.pointer none) rfl ?_)
  (try simp only [Act.put, st_a, st_0, st_s])
  refine wl_give rfl (g_assign _ (.int .i64 (0)) rfl ?_)
  (try simp only [Act.put, st_a, st_0, st_s])
  refine wl_nil ?_
  refine hK1 _ _ ?_
  (try clear hK1 K1)
  refine wp_seq_k (fun K2 hK2 => ?_)
  refine wl_region ?_
  refine wl_give rfl (g_move _ (.pointer (some ⟨p, 0, none⟩)) rfl ?_)
  (try simp only [Act.put, st_a, st_0, st_s])
  refine wl_give rfl (g_nil _ ⟨p, 0, none⟩ rfl ?_)
  (try simp only [Act.put, st_a, st_0, st_s])
  refine wl_give rfl (g_fa 36 _ (p) (0) (32) 1 rfl (faRs1 _ _ _) ?_)
  (try simp only [Act.put, st_a, st_0, st_s])
  refine wl_give rfl (g_load 34 _ (p) (32) 4 _ 36 _ rfl (hM.get 0 rfl) Tryd.underlying34 rfl sizeRP (by rw [rsc_length]; decide) (plc (P)) (rs_plan _ _ _) ?_)
  (try simp only [Act.put, st_a, st_0, st_s])
  refine wl_give rfl (g_call 30 _ _ [.agg (plc (P)).toArray] (kf30 _ _) rfl ((rthen_any P w hP.pin Q E hth).mono ?_))
  rintro e w3 ⟨rfl, t_⟩
  refine ⟨_, rfl, ?_⟩
  replace hM := hM.call t_
  clear t_
  (try simp only [Act.put, st_a, st_0, st_s])
  refine wl_give rfl (g_move _ (.tuple #[.agg (plc (Q)).toArray, .int .i64 (E)]) rfl ?_)
  (try simp only [Act.put, st_a, st_0, st_s])
  refine wl_give rfl (g_extract _ #[.agg (plc (Q)).toArray, .int .i64 (E)] 0 (.agg (plc (Q)).toArray) rfl rfl ?_)
  (try simp only [Act.put, st_a, st_0, st_s])
  refine wl_give rfl (g_extract _ #[.agg (plc (Q)).toArray, .int .i64 (E)] 1 (.int .i64 (E)) rfl rfl ?_)
  (try simp only [Act.put, st_a, st_0, st_s])
  refine wl_give rfl (g_alloc 34 (plc (pl0)) zeroRp ?_)
  intro w4 t_ b_
  replace hM := hM.new t_ b_
  clear t_ b_
  (try simp only [Act.put, st_a, st_0, st_s])
  refine wl_give rfl (g_store_all 34 _ _ (w3.heap.size) (plc (Q)) _ 34 rfl rfl (hM.get 0 rfl) (szRp _) (pp_len _ _) (one_plc _) ?_)
  intro w5 t_ b_
  replace hM : Ms w0 w5 (blk (w3.heap.size) (plc (Q)) 34 :: blk (p) (rsc (s) (P) (l)) 36 :: R) := hM.put 0 rfl t_ b_
  clear t_ b_
  (try simp only [Act.put, st_a, st_0, st_s])
  refine wl_give rfl (g_assign _ (.int .i64 (E)) rfl ?_)
  (try simp only [Act.put, st_a, st_0, st_s])
  refine wl_nil ?_
  refine hK2 _ _ ?_
  (try clear hK2 K2)
  refine wp_seq_k (fun K6 hK6 => ?_)
  refine wp_seq_k (fun K7 hK7 => ?_)
  refine wl_region ?_
  refine wl_give rfl (g_move _ (.int .i64 (E)) rfl ?_)
  (try simp only [Act.put, st_a, st_0, st_s])
  refine wl_give rfl (g_ine 29 _ _ .i64 (E) (0) false rfl rfl (decide_eq_false (fun h => h hE)) ?_)
  (try simp only [Act.put, st_a, st_0, st_s])
  refine wl_nil ?_
  refine hK7 _ _ ?_
  (try clear hK7 K7)
  refine wp_cond_false rfl ?_
  refine wp_skip ?_
  refine hK6 _ _ ?_
  (try clear hK6 K6)
  refine wp_seq_k (fun K8 hK8 => ?_)
  refine wp_region_steps (by kernel_rfl) (by kernel_rfl) [7] [0, 0, 0, 0, 0, 0, 0, 0, 1, 1] [1, 1, 1, 1, 1, 1, 0, 1, 1, 1] (by kernel_rfl) (Pm := Nat) (fun π => [.pointer (some ⟨p, 0, none⟩), .pointer (some ⟨p, 0, none⟩), .pointer (some ⟨p, 0, none⟩), .agg (kc (s)).toArray, .agg (kc (S2)).toArray, .agg (plc (Q)).toArray, .agg (rsc (S2) (Q) (0)).toArray, .pointer (some ⟨π, 0, none⟩), .pointer (some ⟨π, 0, none⟩), .int .i64 (0)]) (fun _ => by rfl) (fun j_ π wx => match j_ with | 0 => Ms w0 wx (blk (w3.heap.size) (plc (Q)) 34 :: blk (p) (rsc (s) (P) (l)) 36 :: R) | _ => Ms w0 wx (blk (π) (rsc (S2) (Q) (0)) 36 :: blk (w3.heap.size) (plc (Q)) 34 :: blk (p) (rsc (s) (P) (l)) 36 :: R)) (0) hM.drew ?_ ?_ ?_
  · intro j_ k_ o_ hj_ ho_ π wx hM
    rcases j_ with _ | j_
    · obtain rfl := Option.some.inj hj_
      obtain rfl := Option.some.inj ho_
      simp only [fullL, Act.put, st_a, st_s, st_0]
      replace hM : Ms w0 wx (blk (w3.heap.size) (plc (Q)) 34 :: blk (p) (rsc (s) (P) (l)) 36 :: R) := hM
      exact gw rfl (g_box 36 _ (rsc (S2) (Q) (0)) rfl (fun w' t_ b_ => ⟨(wx.heap.size), rfl, fun i h1 h2 => by rcases i with _ | _ | _ | _ | _ | _ | _ | _ | _ | _ | i <;> first | rfl | trivial | exact absurd rfl h2 | exact absurd h1 (by decide), hM.new t_ b_⟩))
    · simp at hj_
  · intro i_ o_ ho_ hi_ j_ hd_ hh_ hj_ π wx hM
    simp only [fullL, Act.put, st_a, st_s, st_0]
    rcases i_ with _ | _ | _ | _ | _ | _ | _ | _ | _ | _ | i_
    · obtain rfl := Option.some.inj ho_
      exact gw rfl (g_move _ (.pointer (some ⟨p, 0, none⟩)) rfl ⟨rfl, hM⟩)
    · obtain rfl := Option.some.inj ho_
      exact gw rfl (g_nil _ ⟨p, 0, none⟩ rfl ⟨rfl, hM⟩)
    · obtain rfl := Option.some.inj ho_
      exact gw rfl (g_fa 36 _ (p) (0) (0) 0 rfl (faRs0 _ _ _) ⟨rfl, hM⟩)
    · obtain rfl := Option.some.inj ho_
      rcases j_ with _ | _ | j_
      · replace hM : Ms w0 wx (blk (w3.heap.size) (plc (Q)) 34 :: blk (p) (rsc (s) (P) (l)) 36 :: R) := hM
        exact gw rfl (g_load 23 _ (p) (0) 32 _ 36 _ rfl (hM.get 1 rfl) Tryd.underlying23 rfl size23 (by rw [rsc_length]; decide) (kc (s)) (rs_seed _ _ _) ⟨rfl, hM⟩)
      · replace hM : Ms w0 wx (blk (π) (rsc (S2) (Q) (0)) 36 :: blk (w3.heap.size) (plc (Q)) 34 :: blk (p) (rsc (s) (P) (l)) 36 :: R) := hM
        exact gw rfl (g_load 23 _ (p) (0) 32 _ 36 _ rfl (hM.get 2 rfl) Tryd.underlying23 rfl size23 (by rw [rsc_length]; decide) (kc (s)) (rs_seed _ _ _) ⟨rfl, hM⟩)
      · exact absurd hj_ (by simp)
    · obtain rfl := Option.some.inj ho_
      rcases j_ with _ | _ | j_
      · replace hM : Ms w0 wx (blk (w3.heap.size) (plc (Q)) 34 :: blk (p) (rsc (s) (P) (l)) 36 :: R) := hM
        exact gw rfl (g_call 31 _ _ [.agg (kc (s)).toArray, .string (⟨#[115, 101, 101, 100]⟩)] (kf31 _ _) rfl ((mrof_any s S2 ⟨#[115, 101, 101, 100]⟩ wx (by decide) hS2).mono (fun _ _ ⟨h1_, h2_⟩ => ⟨_, h1_, rfl, hM.call h2_⟩)))
      · replace hM : Ms w0 wx (blk (π) (rsc (S2) (Q) (0)) 36 :: blk (w3.heap.size) (plc (Q)) 34 :: blk (p) (rsc (s) (P) (l)) 36 :: R) := hM
        exact gw rfl (g_call 31 _ _ [.agg (kc (s)).toArray, .string (⟨#[115, 101, 101, 100]⟩)] (kf31 _ _) rfl ((mrof_any s S2 ⟨#[115, 101, 101, 100]⟩ wx (by decide) hS2).mono (fun _ _ ⟨h1_, h2_⟩ => ⟨_, h1_, rfl, hM.call h2_⟩)))
      · exact absurd hj_ (by simp)
    · obtain rfl := Option.some.inj ho_
      rcases j_ with _ | _ | j_
      · replace hM : Ms w0 wx (blk (w3.heap.size) (plc (Q)) 34 :: blk (p) (rsc (s) (P) (l)) 36 :: R) := hM
        exact gw rfl (g_load_all 34 _ (w3.heap.size) (plc (Q)) 34 _ rfl (hM.get 0 rfl) Tryd.underlying34 rfl (szRp _) ⟨rfl, hM⟩)
      · replace hM : Ms w0 wx (blk (π) (rsc (S2) (Q) (0)) 36 :: blk (w3.heap.size) (plc (Q)) 34 :: blk (p) (rsc (s) (P) (l)) 36 :: R) := hM
        exact gw rfl (g_load_all 34 _ (w3.heap.size) (plc (Q)) 34 _ rfl (hM.get 1 rfl) Tryd.underlying34 rfl (szRp _) ⟨rfl, hM⟩)
      · exact absurd hj_ (by simp)
    · obtain rfl := Option.some.inj ho_
      exact gw rfl (g_bldRs _ _ (S2) (Q) rfl rfl ⟨rfl, hM⟩)
    · exact absurd (by decide) hi_
    · obtain rfl := Option.some.inj ho_
      exact gw rfl (g_assign _ (.pointer (some ⟨π, 0, none⟩)) rfl ⟨rfl, hM⟩)
    · obtain rfl := Option.some.inj ho_
      exact gw rfl (g_assign _ (.int .i64 (0)) rfl ⟨rfl, hM⟩)
    · simp at ho_
  · simp only [fullL, Act.put, st_a, st_s, st_0]
    rintro p10 w9 hM
    replace hM : Ms w0 w9 (blk (p10) (rsc (S2) (Q) (0)) 36 :: blk (w3.heap.size) (plc (Q)) 34 :: blk (p) (rsc (s) (P) (l)) 36 :: R) := hM
    refine hK8 _ _ ?_
    (try clear hK8 K8)
    refine wp_ret ?_
    go_ret2
    exact ⟨_, rfl, (((hM.erase 1).up 1 rfl).up 1 rfl)⟩
theorem rrenew_yes {w0 w : World} {R : List HP} {p : Nat} {s : Ky} {P : Pl} {l : Int} (hM : Ms w0 w (blk p (rsc s P (l)) 36 :: R)) (hP : POk P) (Q : Pl) (hth : Shut (pth P = (Q, 0))) : Calls Tryd.prog 14 #[.pointer (some ⟨p, 0, none⟩)] w fun e w' => ∃ p2, e = .returned (.tuple #[.pointer (some ⟨p2, 0, none⟩), .int .i64 0]) ∧ Ms w0 w' (blk p2 (rsc (tg s seedW) Q 0) 36 :: blk p (rsc s P (l)) 36 :: R) :=
  rrenew_o hM hP Q 0 _ hth rfl ⟨rfl⟩
end Go.Proofs.YtphocklnhoakcaaDoor
