/- SenderRises: the walk. -/
import Derived.Test.YtphocklnhoakcaaDoorLawC
import Derived.WalkKit
import Derived.WalkSpells
import Derived.WalkLawsBesides
namespace Go.Proofs.YtphocklnhoakcaaDoor.senderRises
set_option maxRecDepth 10000
open Go Go.RowKit
set_option linter.unusedVariables false
set_option linter.unusedSimpArgs false

set_option maxHeartbeats 4000000 in
theorem walk_1 (s : Ky) (P : Pl) (ao : Option Addr) (n cap : Nat) (w : World) (hT : Tabs w) (hP : ¬ POk P) : Calls Tryd.prog 6 #[.agg (kc s).toArray, .agg (plc P).toArray, .slice ao n cap] w fun e w' => e = .returned (.bool true) ∧ Below w.heap.size w w' := by
  have hM := Ms.refl w
  go_enter Tryd.func6, Tryd.ntmps6
  refine wp_seq_k (fun K1 hK1 => ?_)
  refine wl_region ?_
  refine wl_give rfl (g_box 23 _ (kc (s)) rfl ?_)
  intro w2 t_ b_
  replace hM := hM.new t_ b_
  clear t_ b_
  (try simp only [Act.put, st_a, st_0, st_s])
  refine wl_give rfl (g_box 25 _ (plc (P)) rfl ?_)
  intro w3 t_ b_
  replace hM := hM.new t_ b_
  clear t_ b_
  (try simp only [Act.put, st_a, st_0, st_s])
  refine wl_give rfl (g_assign _ (.bool false) rfl ?_)
  (try simp only [Act.put, st_a, st_0, st_s])
  refine wl_nil ?_
  refine hK1 _ _ ?_
  (try clear hK1 K1)
  refine wp_seq_k (fun K4 hK4 => ?_)
  refine wp_seq_k (fun K5 hK5 => ?_)
  refine wl_region ?_
  refine wl_give rfl (g_call 9 _ _ [] (kf9 _ _) rfl ((awake_any w3 (hM.tabs hT)).mono ?_))
  rintro e w6 ⟨rfl, t_⟩
  refine ⟨_, rfl, ?_⟩
  replace hM := hM.call t_
  clear t_
  (try simp only [Act.put, st_a, st_0, st_s])
  refine wl_give rfl (g_unot 4 _ true rfl ?_)
  (try simp only [Act.put, st_a, st_0, st_s])
  refine wl_nil ?_
  refine hK5 _ _ ?_
  (try clear hK5 K5)
  refine wp_cond_false rfl ?_
  refine wp_skip ?_
  refine hK4 _ _ ?_
  (try clear hK4 K4)
  refine wp_seq_k (fun K7 hK7 => ?_)
  refine wp_seq_k (fun K8 hK8 => ?_)
  refine wl_region ?_
  refine wl_give rfl (g_load_all 25 _ (w2.heap.size) (plc (P)) 25 _ rfl (hM.get 0 rfl) Tryd.underlying25 rfl (szPl _) ?_)
  (try simp only [Act.put, st_a, st_0, st_s])
  refine wl_give rfl (g_call 11 _ _ [.agg (plc (P)).toArray] (kf11 _ _) rfl ((may_no P w6 hP).mono ?_))
  rintro e w9 ⟨rfl, t_⟩
  refine ⟨_, rfl, ?_⟩
  replace hM := hM.call t_
  clear t_
  (try simp only [Act.put, st_a, st_0, st_s])
  refine wl_give rfl (g_unot 4 _ false rfl ?_)
  (try simp only [Act.put, st_a, st_0, st_s])
  refine wl_give rfl (g_move _ (.bool true) rfl ?_)
  (try simp only [Act.put, st_a, st_0, st_s])
  refine wl_skip rfl ?_
  (try simp only [Act.put, st_a, st_0, st_s])
  refine wl_skip rfl ?_
  (try simp only [Act.put, st_a, st_0, st_s])
  refine wl_skip rfl ?_
  (try simp only [Act.put, st_a, st_0, st_s])
  refine wl_give rfl (g_pickt _ _ _ (.bool true) rfl rfl ?_)
  (try simp only [Act.put, st_a, st_0, st_s])
  refine wl_nil ?_
  refine hK8 _ _ ?_
  (try clear hK8 K8)
  refine wp_cond_true rfl ?_
  refine wp_seq_k (fun K10 hK10 => ?_)
  refine wl_region ?_
  refine wl_give rfl (g_assign _ (.bool true) rfl ?_)
  (try simp only [Act.put, st_a, st_0, st_s])
  refine wl_nil ?_
  refine hK10 _ _ ?_
  (try clear hK10 K10)
  refine wp_ret ?_
  go_ret
  exact ⟨rfl, hM.below⟩
set_option maxHeartbeats 4000000 in
theorem walk_2 (s : Ky) (P : Pl) (ao : Option Addr) (n cap : Nat) (w : World) (hT : Tabs w) (hP : POk P) (h1 : 16 < P.ct) : Calls Tryd.prog 6 #[.agg (kc s).toArray, .agg (plc P).toArray, .slice ao n cap] w fun e w' => e = .returned (.bool true) ∧ Below w.heap.size w w' := by
  have hM := Ms.refl w
  go_enter Tryd.func6, Tryd.ntmps6
  refine wp_seq_k (fun K1 hK1 => ?_)
  refine wl_region ?_
  refine wl_give rfl (g_box 23 _ (kc (s)) rfl ?_)
  intro w2 t_ b_
  replace hM := hM.new t_ b_
  clear t_ b_
  (try simp only [Act.put, st_a, st_0, st_s])
  refine wl_give rfl (g_box 25 _ (plc (P)) rfl ?_)
  intro w3 t_ b_
  replace hM := hM.new t_ b_
  clear t_ b_
  (try simp only [Act.put, st_a, st_0, st_s])
  refine wl_give rfl (g_assign _ (.bool false) rfl ?_)
  (try simp only [Act.put, st_a, st_0, st_s])
  refine wl_nil ?_
  refine hK1 _ _ ?_
  (try clear hK1 K1)
  refine wp_seq_k (fun K4 hK4 => ?_)
  refine wp_seq_k (fun K5 hK5 => ?_)
  refine wl_region ?_
  refine wl_give rfl (g_call 9 _ _ [] (kf9 _ _) rfl ((awake_any w3 (hM.tabs hT)).mono ?_))
  rintro e w6 ⟨rfl, t_⟩
  refine ⟨_, rfl, ?_⟩
  replace hM := hM.call t_
  clear t_
  (try simp only [Act.put, st_a, st_0, st_s])
  refine wl_give rfl (g_unot 4 _ true rfl ?_)
  (try simp only [Act.put, st_a, st_0, st_s])
  refine wl_nil ?_
  refine hK5 _ _ ?_
  (try clear hK5 K5)
  refine wp_cond_false rfl ?_
  refine wp_skip ?_
  refine hK4 _ _ ?_
  (try clear hK4 K4)
  refine wp_seq_k (fun K7 hK7 => ?_)
  refine wp_seq_k (fun K8 hK8 => ?_)
  refine wl_region ?_
  refine wl_give rfl (g_load_all 25 _ (w2.heap.size) (plc (P)) 25 _ rfl (hM.get 0 rfl) Tryd.underlying25 rfl (szPl _) ?_)
  (try simp only [Act.put, st_a, st_0, st_s])
  refine wl_give rfl (g_call 11 _ _ [.agg (plc (P)).toArray] (kf11 _ _) rfl ((may_yes P w6 hP).mono ?_))
  rintro e w9 ⟨rfl, t_⟩
  refine ⟨_, rfl, ?_⟩
  replace hM := hM.call t_
  clear t_
  (try simp only [Act.put, st_a, st_0, st_s])
  refine wl_give rfl (g_unot 4 _ true rfl ?_)
  (try simp only [Act.put, st_a, st_0, st_s])
  refine wl_give rfl (g_move _ (.bool false) rfl ?_)
  (try simp only [Act.put, st_a, st_0, st_s])
  refine wl_give rfl (g_fa 25 _ (w2.heap.size) (0) (3) 3 rfl (faPl3 _ _ _) ?_)
  (try simp only [Act.put, st_a, st_0, st_s])
  refine wl_give rfl (g_ld1 3 _ (w2.heap.size) (3) _ rfl (ld3 _ _ _ _ ((hM.get 0 rfl).cell (3) _ (rfl))) ?_)
  (try simp only [Act.put, st_a, st_0, st_s])
  refine wl_give rfl (g_igtr 3 _ _ .i64 ((P).ct) (16) true rfl rfl (decide_eq_true h1) ?_)
  (try simp only [Act.put, st_a, st_0, st_s])
  refine wl_give rfl (g_pickf _ _ _ (.bool true) rfl rfl ?_)
  (try simp only [Act.put, st_a, st_0, st_s])
  refine wl_nil ?_
  refine hK8 _ _ ?_
  (try clear hK8 K8)
  refine wp_cond_true rfl ?_
  refine wp_seq_k (fun K10 hK10 => ?_)
  refine wl_region ?_
  refine wl_give rfl (g_assign _ (.bool true) rfl ?_)
  (try simp only [Act.put, st_a, st_0, st_s])
  refine wl_nil ?_
  refine hK10 _ _ ?_
  (try clear hK10 K10)
  refine wp_ret ?_
  go_ret
  exact ⟨rfl, hM.below⟩
set_option maxHeartbeats 4000000 in
theorem walk_3 (s : Ky) (P : Pl) (ao : Option Addr) (n cap : Nat) (w : World) (hT : Tabs w) (hP : POk P) (h1 : ¬ 16 < P.ct) (hc : LC w ao n) (hn : n ≤ 9223372036854775807) : Calls Tryd.prog 6 #[.agg (kc s).toArray, .agg (plc P).toArray, .slice ao n cap] w fun e w' => e = .returned (.bool true) ∧ Below w.heap.size w w' := by
  have hM := Ms.refl w
  go_enter Tryd.func6, Tryd.ntmps6
  refine wp_seq_k (fun K1 hK1 => ?_)
  refine wl_region ?_
  refine wl_give rfl (g_box 23 _ (kc (s)) rfl ?_)
  intro w2 t_ b_
  replace hM := hM.new t_ b_
  clear t_ b_
  (try simp only [Act.put, st_a, st_0, st_s])
  refine wl_give rfl (g_box 25 _ (plc (P)) rfl ?_)
  intro w3 t_ b_
  replace hM := hM.new t_ b_
  clear t_ b_
  (try simp only [Act.put, st_a, st_0, st_s])
  refine wl_give rfl (g_assign _ (.bool false) rfl ?_)
  (try simp only [Act.put, st_a, st_0, st_s])
  refine wl_nil ?_
  refine hK1 _ _ ?_
  (try clear hK1 K1)
  refine wp_seq_k (fun K4 hK4 => ?_)
  refine wp_seq_k (fun K5 hK5 => ?_)
  refine wl_region ?_
  refine wl_give rfl (g_call 9 _ _ [] (kf9 _ _) rfl ((awake_any w3 (hM.tabs hT)).mono ?_))
  rintro e w6 ⟨rfl, t_⟩
  refine ⟨_, rfl, ?_⟩
  replace hM := hM.call t_
  clear t_
  (try simp only [Act.put, st_a, st_0, st_s])
  refine wl_give rfl (g_unot 4 _ true rfl ?_)
  (try simp only [Act.put, st_a, st_0, st_s])
  refine wl_nil ?_
  refine hK5 _ _ ?_
  (try clear hK5 K5)
  refine wp_cond_false rfl ?_
  refine wp_skip ?_
  refine hK4 _ _ ?_
  (try clear hK4 K4)
  refine wp_seq_k (fun K7 hK7 => ?_)
  refine wp_seq_k (fun K8 hK8 => ?_)
  refine wl_region ?_
  refine wl_give rfl (g_load_all 25 _ (w2.heap.size) (plc (P)) 25 _ rfl (hM.get 0 rfl) Tryd.underlying25 rfl (szPl _) ?_)
  (try simp only [Act.put, st_a, st_0, st_s])
  refine wl_give rfl (g_call 11 _ _ [.agg (plc (P)).toArray] (kf11 _ _) rfl ((may_yes P w6 hP).mono ?_))
  rintro e w9 ⟨rfl, t_⟩
  refine ⟨_, rfl, ?_⟩
  replace hM := hM.call t_
  clear t_
  (try simp only [Act.put, st_a, st_0, st_s])
  refine wl_give rfl (g_unot 4 _ true rfl ?_)
  (try simp only [Act.put, st_a, st_0, st_s])
  refine wl_give rfl (g_move _ (.bool false) rfl ?_)
  (try simp only [Act.put, st_a, st_0, st_s])
  refine wl_give rfl (g_fa 25 _ (w2.heap.size) (0) (3) 3 rfl (faPl3 _ _ _) ?_)
  (try simp only [Act.put, st_a, st_0, st_s])
  refine wl_give rfl (g_ld1 3 _ (w2.heap.size) (3) _ rfl (ld3 _ _ _ _ ((hM.get 0 rfl).cell (3) _ (rfl))) ?_)
  (try simp only [Act.put, st_a, st_0, st_s])
  refine wl_give rfl (g_igtr 3 _ _ .i64 ((P).ct) (16) false rfl rfl (decide_eq_false h1) ?_)
  (try simp only [Act.put, st_a, st_0, st_s])
  refine wl_give rfl (g_pickf _ _ _ (.bool false) rfl rfl ?_)
  (try simp only [Act.put, st_a, st_0, st_s])
  refine wl_nil ?_
  refine hK8 _ _ ?_
  (try clear hK8 K8)
  refine wp_cond_false rfl ?_
  refine wp_skip ?_
  refine hK7 _ _ ?_
  (try clear hK7 K7)
  refine wp_seq_k (fun K10 hK10 => ?_)
  refine wl_region ?_
  refine wl_give rfl (g_load_all 23 _ (w.heap.size) (kc (s)) 23 _ rfl (hM.get 1 rfl) Tryd.underlying23 rfl (szK _) ?_)
  (try simp only [Act.put, st_a, st_0, st_s])
  refine wl_give rfl (g_load_all 25 _ (w2.heap.size) (plc (P)) 25 _ rfl (hM.get 0 rfl) Tryd.underlying25 rfl (szPl _) ?_)
  (try simp only [Act.put, st_a, st_0, st_s])
  refine wl_give rfl (g_call 10 _ _ [.agg (kc (s)).toArray, .agg (plc (P)).toArray] (kf10 _ _) rfl ((snew_any (s) (P) w w9 _ hM hT hP).mono ?_))
  rintro e w11 ⟨p12, rfl, h_⟩
  refine ⟨_, rfl, ?_⟩
  replace hM : Ms w w11 [sn p12 (s) (P) (0), blk (w2.heap.size) (plc (P)) 25, blk (w.heap.size) (kc (s)) 23] := h_
  clear h_
  (try simp only [Act.put, st_a, st_0, st_s])
  refine wl_give rfl (g_move _ (.tuple #[.pointer (some ⟨p12, 0, none⟩), .int .i64 (0)]) rfl ?_)
  (try simp only [Act.put, st_a, st_0, st_s])
  refine wl_give rfl (g_extract _ #[.pointer (some ⟨p12, 0, none⟩), .int .i64 (0)] 0 (.pointer (some ⟨p12, 0, none⟩)) rfl rfl ?_)
  (try simp only [Act.put, st_a, st_0, st_s])
  refine wl_give rfl (g_extract _ #[.pointer (some ⟨p12, 0, none⟩), .int .i64 (0)] 1 (.int .i64 (0)) rfl rfl ?_)
  (try simp only [Act.put, st_a, st_0, st_s])
  refine wl_give rfl (g_assign _ (.pointer (some ⟨p12, 0, none⟩)) rfl ?_)
  (try simp only [Act.put, st_a, st_0, st_s])
  refine wl_give rfl (g_assign _ (.int .i64 (0)) rfl ?_)
  (try simp only [Act.put, st_a, st_0, st_s])
  refine wl_nil ?_
  refine hK10 _ _ ?_
  (try clear hK10 K10)
  refine wp_seq_k (fun K13 hK13 => ?_)
  refine wl_region ?_
  refine wl_give rfl (g_load_all 23 _ (w.heap.size) (kc (s)) 23 _ rfl (hM.get 2 rfl) Tryd.underlying23 rfl (szK _) ?_)
  (try simp only [Act.put, st_a, st_0, st_s])
  refine wl_give rfl (g_load_all 25 _ (w2.heap.size) (plc (P)) 25 _ rfl (hM.get 1 rfl) Tryd.underlying25 rfl (szPl _) ?_)
  (try simp only [Act.put, st_a, st_0, st_s])
  refine wl_give rfl (g_call 10 _ _ [.agg (kc (s)).toArray, .agg (plc (P)).toArray] (kf10 _ _) rfl ((snew_any (s) (P) w w11 _ hM hT hP).mono ?_))
  rintro e w14 ⟨r15, rfl, h_⟩
  refine ⟨_, rfl, ?_⟩
  replace hM : Ms w w14 [sn r15 (s) (P) (0), sn p12 (s) (P) (0), blk (w2.heap.size) (plc (P)) 25, blk (w.heap.size) (kc (s)) 23] := h_
  clear h_
  (try simp only [Act.put, st_a, st_0, st_s])
  refine wl_give rfl (g_move _ (.tuple #[.pointer (some ⟨r15, 0, none⟩), .int .i64 (0)]) rfl ?_)
  (try simp only [Act.put, st_a, st_0, st_s])
  refine wl_give rfl (g_extract _ #[.pointer (some ⟨r15, 0, none⟩), .int .i64 (0)] 0 (.pointer (some ⟨r15, 0, none⟩)) rfl rfl ?_)
  (try simp only [Act.put, st_a, st_0, st_s])
  refine wl_give rfl (g_extract _ #[.pointer (some ⟨r15, 0, none⟩), .int .i64 (0)] 1 (.int .i64 (0)) rfl rfl ?_)
  (try simp only [Act.put, st_a, st_0, st_s])
  refine wl_give rfl (g_assign _ (.pointer (some ⟨r15, 0, none⟩)) rfl ?_)
  (try simp only [Act.put, st_a, st_0, st_s])
  refine wl_give rfl (g_assign _ (.int .i64 (0)) rfl ?_)
  (try simp only [Act.put, st_a, st_0, st_s])
  refine wl_nil ?_
  refine hK13 _ _ ?_
  (try clear hK13 K13)
  refine wp_seq_k (fun K16 hK16 => ?_)
  refine wp_seq_k (fun K17 hK17 => ?_)
  refine wl_region ?_
  refine wl_give rfl (g_move _ (.pointer (some ⟨p12, 0, none⟩)) rfl ?_)
  (try simp only [Act.put, st_a, st_0, st_s])
  refine wl_give rfl (g_peqS _ ((some ⟨p12, 0, none⟩)) false rfl rfl ?_)
  (try simp only [Act.put, st_a, st_0, st_s])
  refine wl_give rfl (g_move _ (.bool false) rfl ?_)
  (try simp only [Act.put, st_a, st_0, st_s])
  refine wl_give rfl (g_move _ (.pointer (some ⟨r15, 0, none⟩)) rfl ?_)
  (try simp only [Act.put, st_a, st_0, st_s])
  refine wl_give rfl (g_peqS _ ((some ⟨r15, 0, none⟩)) false rfl rfl ?_)
  (try simp only [Act.put, st_a, st_0, st_s])
  refine wl_give rfl (g_pickf _ _ _ (.bool false) rfl rfl ?_)
  (try simp only [Act.put, st_a, st_0, st_s])
  refine wl_nil ?_
  refine hK17 _ _ ?_
  (try clear hK17 K17)
  refine wp_cond_false rfl ?_
  refine wp_skip ?_
  refine hK16 _ _ ?_
  (try clear hK16 K16)
  refine wp_seq_k (fun K18 hK18 => ?_)
  refine wl_region ?_
  refine wl_give rfl (g_assign _ (.int .i64 (0)) rfl ?_)
  (try simp only [Act.put, st_a, st_0, st_s])
  refine wl_nil ?_
  refine hK18 _ _ ?_
  (try clear hK18 K18)
  refine wp_seq_k (fun K19 hK19 => ?_)
  refine wp_seq_k (fun K20 hK20 => ?_)
  refine wl_region ?_
  refine wl_give rfl (g_assign _ (.int .i64 (0)) rfl ?_)
  (try simp only [Act.put, st_a, st_0, st_s])
  refine wl_nil ?_
  refine hK20 _ _ ?_
  (try clear hK20 K20)
  refine wp_block ?_
  go_loopw [11, 12] (fun v11 v12 wr => ∃ (j : Nat) (l : Int), j ≤ n ∧ v11 = .int .i64 l ∧ v12 = .int .i64 ((j : Nat) : Int) ∧ Ms w wr [sn r15 (s) (P) (l), sn p12 (s) (P) (l), blk (w2.heap.size) (plc (P)) 25, blk (w.heap.size) (kc (s)) 23]) (fun v11 v12 _ => (n - intOf v12).toNat)
  case atStart => exact ⟨0, 0, Nat.zero_le _, rfl, rfl, hM⟩
  case round =>
    clear hM
    obtain ⟨j, l, hj, rfl, rfl, hM⟩ := hrel
    by_cases hjn : j < n
    · by_cases h30 : (j : Int) < 30
      · obtain ⟨b, o, t, y, eao, c0, c1, ht⟩ := hc j hjn
        subst eao
        have ej : Shut (IntKind.i64.wrap (((j : Nat) : Int) + 1) = ((j + 1 : Nat) : Int)) := ⟨by rw [wrap_id _ (by omega) (by omega)]; omega⟩
        by_cases hlg : 1100 < y.size
        · skip
          refine wp_seq_k (fun K21 hK21 => ?_)
          refine wp_seq_k (fun K22 hK22 => ?_)
          refine wl_region ?_
          refine wl_give rfl (g_move _ (.int .i64 (((j : Nat) : Int))) rfl ?_)
          (try simp only [Act.put, st_a, st_0, st_s])
          refine wl_give rfl (g_move _ (.slice (some ⟨b, o, none⟩) (n) (cap)) rfl ?_)
          (try simp only [Act.put, st_a, st_0, st_s])
          refine wl_give rfl (g_len _ 26 39 ((some ⟨b, o, none⟩)) (n) (cap) (((n : Nat) : Int)) Tryd.underlying26 rfl (rfl) ?_)
          (try simp only [Act.put, st_a, st_0, st_s])
          refine wl_give rfl (g_ilss 3 _ _ .i64 (((j : Nat) : Int)) (((n : Nat) : Int)) true rfl rfl (decide_eq_true (by omega)) ?_)
          (try simp only [Act.put, st_a, st_0, st_s])
          refine wl_give rfl (g_move _ (.bool true) rfl ?_)
          (try simp only [Act.put, st_a, st_0, st_s])
          refine wl_give rfl (g_move _ (.int .i64 (((j : Nat) : Int))) rfl ?_)
          (try simp only [Act.put, st_a, st_0, st_s])
          refine wl_give rfl (g_ilss 3 _ _ .i64 (((j : Nat) : Int)) (30) true rfl rfl (decide_eq_true h30) ?_)
          (try simp only [Act.put, st_a, st_0, st_s])
          refine wl_give rfl (g_pickt _ _ _ (.bool true) rfl rfl ?_)
          (try simp only [Act.put, st_a, st_0, st_s])
          refine wl_nil ?_
          refine hK22 _ _ ?_
          (try clear hK22 K22)
          refine wp_cond_true rfl ?_
          refine wp_skip ?_
          refine hK21 _ _ ?_
          (try clear hK21 K21)
          refine wp_seq_k (fun K23 hK23 => ?_)
          refine wp_block ?_
          refine wp_seq_k (fun K24 hK24 => ?_)
          refine wp_seq_k (fun K25 hK25 => ?_)
          refine wl_region ?_
          refine wl_give rfl (g_move _ (.slice (some ⟨b, o, none⟩) (n) (cap)) rfl ?_)
          (try simp only [Act.put, st_a, st_0, st_s])
          refine wl_give rfl (g_move _ (.int .i64 (((j : Nat) : Int))) rfl ?_)
          (try simp only [Act.put, st_a, st_0, st_s])
          refine wl_give rfl (g_ix _ _ 26 39 2 Tryd.underlying26 szof39 b o n cap j (o + j * 2) _ rfl rfl rfl hjn rfl ?_)
          (try simp only [Act.put, st_a, st_0, st_s])
          refine wl_give rfl (g_ldC _ b (o + j * 2) (t) (y) rfl (cell_on hM c0) (cell_on hM c1) ?_)
          (try simp only [Act.put, st_a, st_0, st_s])
          refine wl_give rfl (g_call 12 _ _ [.agg (cac (t) (y)).toArray] (kf12 _ _) rfl ((large_yes t y wr hlg).mono ?_))
          rintro e w26 ⟨rfl, t_⟩
          refine ⟨_, rfl, ?_⟩
          replace hM := hM.call t_
          clear t_
          (try simp only [Act.put, st_a, st_0, st_s])
          refine wl_nil ?_
          refine hK25 _ _ ?_
          (try clear hK25 K25)
          refine wp_cond_true rfl ?_
          refine wp_seq_k (fun K27 hK27 => ?_)
          refine wl_region ?_
          refine wl_give rfl (g_assign _ (.bool true) rfl ?_)
          (try simp only [Act.put, st_a, st_0, st_s])
          refine wl_nil ?_
          refine hK27 _ _ ?_
          (try clear hK27 K27)
          refine wp_ret ?_
          go_ret
          exact ⟨rfl, hM.below⟩
        · skip
          rcases sd_cases hP s l t y with ⟨E, hE, hS0⟩ | ⟨i, i1, i2, hli, hys, hS0⟩
          · skip
            refine wp_seq_k (fun K28 hK28 => ?_)
            refine wp_seq_k (fun K29 hK29 => ?_)
            refine wl_region ?_
            refine wl_give rfl (g_move _ (.int .i64 (((j : Nat) : Int))) rfl ?_)
            (try simp only [Act.put, st_a, st_0, st_s])
            refine wl_give rfl (g_move _ (.slice (some ⟨b, o, none⟩) (n) (cap)) rfl ?_)
            (try simp only [Act.put, st_a, st_0, st_s])
            refine wl_give rfl (g_len _ 26 39 ((some ⟨b, o, none⟩)) (n) (cap) (((n : Nat) : Int)) Tryd.underlying26 rfl (rfl) ?_)
            (try simp only [Act.put, st_a, st_0, st_s])
            refine wl_give rfl (g_ilss 3 _ _ .i64 (((j : Nat) : Int)) (((n : Nat) : Int)) true rfl rfl (decide_eq_true (by omega)) ?_)
            (try simp only [Act.put, st_a, st_0, st_s])
            refine wl_give rfl (g_move _ (.bool true) rfl ?_)
            (try simp only [Act.put, st_a, st_0, st_s])
            refine wl_give rfl (g_move _ (.int .i64 (((j : Nat) : Int))) rfl ?_)
            (try simp only [Act.put, st_a, st_0, st_s])
            refine wl_give rfl (g_ilss 3 _ _ .i64 (((j : Nat) : Int)) (30) true rfl rfl (decide_eq_true h30) ?_)
            (try simp only [Act.put, st_a, st_0, st_s])
            refine wl_give rfl (g_pickt _ _ _ (.bool true) rfl rfl ?_)
            (try simp only [Act.put, st_a, st_0, st_s])
            refine wl_nil ?_
            refine hK29 _ _ ?_
            (try clear hK29 K29)
            refine wp_cond_true rfl ?_
            refine wp_skip ?_
            refine hK28 _ _ ?_
            (try clear hK28 K28)
            refine wp_seq_k (fun K30 hK30 => ?_)
            refine wp_block ?_
            refine wp_seq_k (fun K31 hK31 => ?_)
            refine wp_seq_k (fun K32 hK32 => ?_)
            refine wl_region ?_
            refine wl_give rfl (g_move _ (.slice (some ⟨b, o, none⟩) (n) (cap)) rfl ?_)
            (try simp only [Act.put, st_a, st_0, st_s])
            refine wl_give rfl (g_move _ (.int .i64 (((j : Nat) : Int))) rfl ?_)
            (try simp only [Act.put, st_a, st_0, st_s])
            refine wl_give rfl (g_ix _ _ 26 39 2 Tryd.underlying26 szof39 b o n cap j (o + j * 2) _ rfl rfl rfl hjn rfl ?_)
            (try simp only [Act.put, st_a, st_0, st_s])
            refine wl_give rfl (g_ldC _ b (o + j * 2) (t) (y) rfl (cell_on hM c0) (cell_on hM c1) ?_)
            (try simp only [Act.put, st_a, st_0, st_s])
            refine wl_give rfl (g_call 12 _ _ [.agg (cac (t) (y)).toArray] (kf12 _ _) rfl ((large_no t y wr hlg).mono ?_))
            rintro e w33 ⟨rfl, t_⟩
            refine ⟨_, rfl, ?_⟩
            replace hM := hM.call t_
            clear t_
            (try simp only [Act.put, st_a, st_0, st_s])
            refine wl_nil ?_
            refine hK32 _ _ ?_
            (try clear hK32 K32)
            refine wp_cond_false rfl ?_
            refine wp_skip ?_
            refine hK31 _ _ ?_
            (try clear hK31 K31)
            refine wp_seq_k (fun K34 hK34 => ?_)
            refine wp_region_poset (by kernel_rfl) (by kernel_rfl) [11, 15, 16] [[], [], [], [], [], [], [], [], [], [], [], [], [0], [0], [0], [], [0, 1], [0, 1, 2]] [[0, 2], [2], [2], [2], [2], [0, 2], [2], [2], [2], [2], [0, 2], [2], [2], [2], [], [2], [], []] (by kernel_rfl) (Pm := Nat) (fun π => [.pointer (some ⟨p12, 0, none⟩), .slice (some ⟨b, o, none⟩) (n) (cap), .int .i64 (((j : Nat) : Int)), .pointer (some ⟨b, o + j * 2, none⟩), .pointer (some ⟨b, o + j * 2, none⟩), .int .i64 (t), .slice (some ⟨b, o, none⟩) (n) (cap), .int .i64 (((j : Nat) : Int)), .pointer (some ⟨b, o + j * 2, none⟩), .pointer (some ⟨b, o + j * 2 + 1, none⟩), .string (y), .tuple #[.agg (pkc (0) (⟨#[]⟩) (⟨#[]⟩) (0) (zk)).toArray, .int .i64 (E)], .tuple #[.agg (pkc (0) (⟨#[]⟩) (⟨#[]⟩) (0) (zk)).toArray, .int .i64 (E)], .agg (pkc (0) (⟨#[]⟩) (⟨#[]⟩) (0) (zk)).toArray, .int .i64 (E), .pointer (some ⟨π, 0, none⟩), undef, .int .i64 (E)]) (fun _ => by rfl) (fun F_ π wx => (F_ = [false, false, false] ∧ Ms w wx [sn r15 (s) (P) (l), sn p12 (s) (P) (l), blk (w2.heap.size) (plc (P)) 25, blk (w.heap.size) (kc (s)) 23]) ∨ (F_ = [true, false, false] ∧ Ms w wx [sn p12 (s) (P) (l), sn r15 (s) (P) (l), blk (w2.heap.size) (plc (P)) 25, blk (w.heap.size) (kc (s)) 23]) ∨ (F_ = [false, true, false] ∧ Ms w wx [blk (π) (pkc (0) (⟨#[]⟩) (⟨#[]⟩) (0) (zk)) 44, sn r15 (s) (P) (l), sn p12 (s) (P) (l), blk (w2.heap.size) (plc (P)) 25, blk (w.heap.size) (kc (s)) 23]) ∨ (F_ = [true, true, false] ∧ Ms w wx [blk (π) (pkc (0) (⟨#[]⟩) (⟨#[]⟩) (0) (zk)) 44, sn p12 (s) (P) (l), sn r15 (s) (P) (l), blk (w2.heap.size) (plc (P)) 25, blk (w.heap.size) (kc (s)) 23]) ∨ (F_ = [true, true, true] ∧ Ms w wx [blk (π) (pkc (0) (⟨#[]⟩) (⟨#[]⟩) (0) (zk)) 44, sn p12 (s) (P) (l), sn r15 (s) (P) (l), blk (w2.heap.size) (plc (P)) 25, blk (w.heap.size) (kc (s)) 23])) (0) (.inl ⟨rfl, hM.drew⟩) ?_ ?_ ?_
            · intro j_ k_ o_ F_ hj_ ho_ hf_ hn_ π wx hM
              rcases j_ with _ | _ | _ | j_
              · obtain rfl := Option.some.inj hj_
                obtain rfl := Option.some.inj ho_
                simp only [fullL, Act.put, st_a, st_s, st_0]
                rcases hM with ⟨rfl, hM⟩ | ⟨rfl, hM⟩ | ⟨rfl, hM⟩ | ⟨rfl, hM⟩ | ⟨rfl, hM⟩
                · exact gw rfl (g_call 15 _ _ [.pointer (some ⟨p12, 0, none⟩), .int .i64 (t), .string (y)] (kf15 _ _) rfl ((send_any (show Ms w wx [sn p12 (s) (P) (l), sn r15 (s) (P) (l), blk (w2.heap.size) (plc (P)) 25, blk (w.heap.size) (kc (s)) 23] from (hM.up 1 rfl)) hT (t) ht (y) (0) (⟨#[]⟩) (⟨#[]⟩) (0) (zk) (E) (l) ⟨hS0⟩).mono (fun e w' ⟨h1_, h2_⟩ => ⟨_, h1_, ⟨(π), rfl, fun i h1 h2 => by rcases i with _ | _ | _ | _ | _ | _ | _ | _ | _ | _ | _ | _ | _ | _ | _ | _ | _ | _ | i <;> first | rfl | trivial | exact absurd rfl h2 | exact absurd (by decide) h1, .inr (.inl ⟨rfl, ((((h2_.up 3 rfl).up 3 rfl).up 3 rfl).up 3 rfl)⟩)⟩⟩)))
                · exact absurd hf_ (by decide)
                · exact gw rfl (g_call 15 _ _ [.pointer (some ⟨p12, 0, none⟩), .int .i64 (t), .string (y)] (kf15 _ _) rfl ((send_any (show Ms w wx [sn p12 (s) (P) (l), blk (π) (pkc (0) (⟨#[]⟩) (⟨#[]⟩) (0) (zk)) 44, sn r15 (s) (P) (l), blk (w2.heap.size) (plc (P)) 25, blk (w.heap.size) (kc (s)) 23] from (hM.up 2 rfl)) hT (t) ht (y) (0) (⟨#[]⟩) (⟨#[]⟩) (0) (zk) (E) (l) ⟨hS0⟩).mono (fun e w' ⟨h1_, h2_⟩ => ⟨_, h1_, ⟨(π), rfl, fun i h1 h2 => by rcases i with _ | _ | _ | _ | _ | _ | _ | _ | _ | _ | _ | _ | _ | _ | _ | _ | _ | _ | i <;> first | rfl | trivial | exact absurd rfl h2 | exact absurd (by decide) h1, .inr (.inr (.inr (.inl ⟨rfl, (((((h2_.up 4 rfl).up 4 rfl).up 4 rfl).up 3 rfl).up 4 rfl)⟩)))⟩⟩)))
                · exact absurd hf_ (by decide)
                · exact absurd hf_ (by decide)
              · obtain rfl := Option.some.inj hj_
                obtain rfl := Option.some.inj ho_
                simp only [fullL, Act.put, st_a, st_s, st_0]
                rcases hM with ⟨rfl, hM⟩ | ⟨rfl, hM⟩ | ⟨rfl, hM⟩ | ⟨rfl, hM⟩ | ⟨rfl, hM⟩
                · exact gw rfl (g_alloc 44 (pkc (0) (⟨#[]⟩) (⟨#[]⟩) (0) (zk)) zeroPk (fun w' t_ b_ => ⟨(wx.heap.size), rfl, fun i h1 h2 => by rcases i with _ | _ | _ | _ | _ | _ | _ | _ | _ | _ | _ | _ | _ | _ | _ | _ | _ | _ | i <;> first | rfl | trivial | exact absurd rfl h2 | exact absurd (by decide) h1, .inr (.inr (.inl ⟨rfl, ((((((hM.new t_ b_).up 4 rfl).up 4 rfl).up 4 rfl).up 4 rfl).up 4 rfl)⟩))⟩))
                · exact gw rfl (g_alloc 44 (pkc (0) (⟨#[]⟩) (⟨#[]⟩) (0) (zk)) zeroPk (fun w' t_ b_ => ⟨(wx.heap.size), rfl, fun i h1 h2 => by rcases i with _ | _ | _ | _ | _ | _ | _ | _ | _ | _ | _ | _ | _ | _ | _ | _ | _ | _ | i <;> first | rfl | trivial | exact absurd rfl h2 | exact absurd (by decide) h1, .inr (.inr (.inr (.inl ⟨rfl, ((((((hM.new t_ b_).up 4 rfl).up 4 rfl).up 4 rfl).up 4 rfl).up 4 rfl)⟩)))⟩))
                · exact absurd hf_ (by decide)
                · exact absurd hf_ (by decide)
                · exact absurd hf_ (by decide)
              · obtain rfl := Option.some.inj hj_
                obtain rfl := Option.some.inj ho_
                simp only [fullL, Act.put, st_a, st_s, st_0]
                rcases hM with ⟨rfl, hM⟩ | ⟨rfl, hM⟩ | ⟨rfl, hM⟩ | ⟨rfl, hM⟩ | ⟨rfl, hM⟩
                · exact absurd (hn_ 0 (by decide)) (by decide)
                · exact absurd (hn_ 1 (by decide)) (by decide)
                · exact absurd (hn_ 0 (by decide)) (by decide)
                · exact gw rfl (g_store_all 44 _ _ (π) (pkc (0) (⟨#[]⟩) (⟨#[]⟩) (0) (zk)) _ 44 rfl rfl (hM.get 0 rfl) (szPk _ _ _ _ _) (kk2_len _ _ _ _ _ _ _ _ _ _) (one_pkc _ _ _ _ _) (fun w' t_ b_ => ⟨(π), rfl, fun i h1 h2 => by rcases i with _ | _ | _ | _ | _ | _ | _ | _ | _ | _ | _ | _ | _ | _ | _ | _ | _ | _ | i <;> first | rfl | trivial | exact absurd rfl h2 | exact absurd (by decide) h1, .inr (.inr (.inr (.inr (⟨rfl, ((((((hM.put 0 rfl t_ b_).up 4 rfl).up 4 rfl).up 4 rfl).up 4 rfl).up 4 rfl)⟩))))⟩))
                · exact absurd hf_ (by decide)
              · simp at hj_
            · intro i_ o_ F_ ho_ hi_ hd_ hb_ π wx hM
              simp only [fullL, Act.put, st_a, st_s, st_0]
              rcases i_ with _ | _ | _ | _ | _ | _ | _ | _ | _ | _ | _ | _ | _ | _ | _ | _ | _ | _ | i_
              · obtain rfl := Option.some.inj ho_
                exact gw rfl (g_move _ (.pointer (some ⟨p12, 0, none⟩)) rfl ⟨rfl, hM⟩)
              · obtain rfl := Option.some.inj ho_
                exact gw rfl (g_move _ (.slice (some ⟨b, o, none⟩) (n) (cap)) rfl ⟨rfl, hM⟩)
              · obtain rfl := Option.some.inj ho_
                exact gw rfl (g_move _ (.int .i64 (((j : Nat) : Int))) rfl ⟨rfl, hM⟩)
              · obtain rfl := Option.some.inj ho_
                exact gw rfl (g_ix _ _ 26 39 2 Tryd.underlying26 szof39 b o n cap j (o + j * 2) _ rfl rfl rfl hjn rfl ⟨rfl, hM⟩)
              · obtain rfl := Option.some.inj ho_
                exact gw rfl (g_fa 39 _ b (o + j * 2) (o + j * 2) 0 rfl (faCa0 _ _ _) ⟨rfl, hM⟩)
              · obtain rfl := Option.some.inj ho_
                rcases hM with ⟨rfl, hM⟩ | ⟨rfl, hM⟩ | ⟨rfl, hM⟩ | ⟨rfl, hM⟩ | ⟨rfl, hM⟩
                · exact gw rfl (g_ld1 2 _ b (o + j * 2) _ rfl (ld2 _ _ _ _ (cell_on hM c0)) ⟨rfl, .inl ⟨rfl, hM⟩⟩)
                · exact absurd (hb_ 0 (by decide)) (by decide)
                · exact gw rfl (g_ld1 2 _ b (o + j * 2) _ rfl (ld2 _ _ _ _ (cell_on hM c0)) ⟨rfl, .inr (.inr (.inl ⟨rfl, hM⟩))⟩)
                · exact absurd (hb_ 0 (by decide)) (by decide)
                · exact absurd (hb_ 0 (by decide)) (by decide)
              · obtain rfl := Option.some.inj ho_
                exact gw rfl (g_move _ (.slice (some ⟨b, o, none⟩) (n) (cap)) rfl ⟨rfl, hM⟩)
              · obtain rfl := Option.some.inj ho_
                exact gw rfl (g_move _ (.int .i64 (((j : Nat) : Int))) rfl ⟨rfl, hM⟩)
              · obtain rfl := Option.some.inj ho_
                exact gw rfl (g_ix _ _ 26 39 2 Tryd.underlying26 szof39 b o n cap j (o + j * 2) _ rfl rfl rfl hjn rfl ⟨rfl, hM⟩)
              · obtain rfl := Option.some.inj ho_
                exact gw rfl (g_fa 39 _ b (o + j * 2) (o + j * 2 + 1) 1 rfl (faCa1 _ _ _) ⟨rfl, hM⟩)
              · obtain rfl := Option.some.inj ho_
                rcases hM with ⟨rfl, hM⟩ | ⟨rfl, hM⟩ | ⟨rfl, hM⟩ | ⟨rfl, hM⟩ | ⟨rfl, hM⟩
                · exact gw rfl (g_ld1 9 _ b (o + j * 2 + 1) _ rfl (ld9 _ _ _ _ (cell_on hM c1)) ⟨rfl, .inl ⟨rfl, hM⟩⟩)
                · exact absurd (hb_ 0 (by decide)) (by decide)
                · exact gw rfl (g_ld1 9 _ b (o + j * 2 + 1) _ rfl (ld9 _ _ _ _ (cell_on hM c1)) ⟨rfl, .inr (.inr (.inl ⟨rfl, hM⟩))⟩)
                · exact absurd (hb_ 0 (by decide)) (by decide)
                · exact absurd (hb_ 0 (by decide)) (by decide)
              · exact absurd (by decide) hi_
              · obtain rfl := Option.some.inj ho_
                exact gw rfl (g_move _ (.tuple #[.agg (pkc (0) (⟨#[]⟩) (⟨#[]⟩) (0) (zk)).toArray, .int .i64 (E)]) rfl ⟨rfl, hM⟩)
              · obtain rfl := Option.some.inj ho_
                exact gw rfl (g_extract _ #[.agg (pkc (0) (⟨#[]⟩) (⟨#[]⟩) (0) (zk)).toArray, .int .i64 (E)] 0 (.agg (pkc (0) (⟨#[]⟩) (⟨#[]⟩) (0) (zk)).toArray) rfl rfl ⟨rfl, hM⟩)
              · obtain rfl := Option.some.inj ho_
                exact gw rfl (g_extract _ #[.agg (pkc (0) (⟨#[]⟩) (⟨#[]⟩) (0) (zk)).toArray, .int .i64 (E)] 1 (.int .i64 (E)) rfl rfl ⟨rfl, hM⟩)
              · exact absurd (by decide) hi_
              · exact absurd (by decide) hi_
              · obtain rfl := Option.some.inj ho_
                exact gw rfl (g_assign _ (.int .i64 (E)) rfl ⟨rfl, hM⟩)
              · simp at ho_
            · simp only [fullL, Act.put, st_a, st_s, st_0]
              rintro F_ p36 w35 hF_ hM
              subst hF_
              rcases hM with ⟨h_, hM⟩ | ⟨h_, hM⟩ | ⟨h_, hM⟩ | ⟨h_, hM⟩ | ⟨h_, hM⟩
              · exact absurd h_ (by decide)
              · exact absurd h_ (by decide)
              · exact absurd h_ (by decide)
              · exact absurd h_ (by decide)
              clear h_
              replace hM : Ms w w35 [blk (p36) (pkc (0) (⟨#[]⟩) (⟨#[]⟩) (0) (zk)) 44, sn p12 (s) (P) (l), sn r15 (s) (P) (l), blk (w2.heap.size) (plc (P)) 25, blk (w.heap.size) (kc (s)) 23] := hM
              refine hK34 _ _ ?_
              (try clear hK34 K34)
              refine wp_seq_k (fun K37 hK37 => ?_)
              refine wp_seq_k (fun K38 hK38 => ?_)
              refine wl_region ?_
              refine wl_give rfl (g_move _ (.int .i64 (E)) rfl ?_)
              (try simp only [Act.put, st_a, st_0, st_s])
              refine wl_give rfl (g_ine 29 _ _ .i64 (E) (0) true rfl rfl (decide_eq_true hE) ?_)
              (try simp only [Act.put, st_a, st_0, st_s])
              refine wl_nil ?_
              refine hK38 _ _ ?_
              (try clear hK38 K38)
              refine wp_cond_true rfl ?_
              refine wp_seq_k (fun K39 hK39 => ?_)
              refine wp_seq_k (fun K40 hK40 => ?_)
              refine wl_region ?_
              refine wl_give rfl (g_move _ (.pointer (some ⟨p12, 0, none⟩)) rfl ?_)
              (try simp only [Act.put, st_a, st_0, st_s])
              refine wl_give rfl (g_call 17 _ _ [.pointer (some ⟨p12, 0, none⟩)] (kf17 _ _) rfl ((last_any (show Ms w w35 [sn p12 (s) (P) (l), blk (p36) (pkc (0) (⟨#[]⟩) (⟨#[]⟩) (0) (zk)) 44, sn r15 (s) (P) (l), blk (w2.heap.size) (plc (P)) 25, blk (w.heap.size) (kc (s)) 23] from (hM.up 1 rfl))).mono ?_))
              rintro e w41 ⟨rfl, t_⟩
              refine ⟨_, rfl, ?_⟩
              replace hM := hM.call t_
              clear t_
              (try simp only [Act.put, st_a, st_0, st_s])
              refine wl_give rfl (g_move _ (.int .i64 (l)) rfl ?_)
              (try simp only [Act.put, st_a, st_0, st_s])
              refine wl_give rfl (g_ine 3 _ _ .i64 (l) (l) false rfl rfl (decide_eq_false (fun h => h rfl)) ?_)
              (try simp only [Act.put, st_a, st_0, st_s])
              refine wl_nil ?_
              refine hK40 _ _ ?_
              (try clear hK40 K40)
              refine wp_cond_false rfl ?_
              refine wp_skip ?_
              refine hK39 _ _ ?_
              (try clear hK39 K39)
              refine wp_exit ?_
              refine hK30 _ _ ?_
              (try clear hK30 K30)
              refine wl_region ?_
              refine wl_give rfl (g_move _ (.int .i64 (((j : Nat) : Int))) rfl ?_)
              (try simp only [Act.put, st_a, st_0, st_s])
              refine wl_give rfl (g_ia 3 _ _ .i64 (((j : Nat) : Int)) (1) (((j + 1 : Nat) : Int)) rfl rfl ej.out ?_)
              (try simp only [Act.put, st_a, st_0, st_s])
              refine wl_give rfl (g_assign _ (.int .i64 (((j + 1 : Nat) : Int))) rfl ?_)
              (try simp only [Act.put, st_a, st_0, st_s])
              refine wl_nil ?_
              (try simp only [Exit.then, Exit.inBlock, ↓reduceIte, Nat.reduceEqDiff])
              go_roundw
              case rel => exact ⟨j + 1, l, by omega, rfl, rfl, (((((hM.erase 0).up 3 rfl).up 3 rfl).up 2 rfl).up 3 rfl)⟩
              case measure => simp [intOf]; omega
          · obtain ⟨G, eG⟩ : ∃ G, tgs (kyk s P i) i y = G := ⟨_, rfl⟩
            obtain ⟨T, eT⟩ : ∃ T, pte P i = T := ⟨_, rfl⟩
            obtain ⟨K, eK⟩ : ∃ K, (if 0 < T then kyk s P T else zk) = K := ⟨_, rfl⟩
            rw [eG, eT, eK] at hS0
            clear eG eT eK
            have hlt : ¬ ((i : Nat) : Int) < l := by omega
            refine wp_seq_k (fun K42 hK42 => ?_)
            refine wp_seq_k (fun K43 hK43 => ?_)
            refine wl_region ?_
            refine wl_give rfl (g_move _ (.int .i64 (((j : Nat) : Int))) rfl ?_)
            (try simp only [Act.put, st_a, st_0, st_s])
            refine wl_give rfl (g_move _ (.slice (some ⟨b, o, none⟩) (n) (cap)) rfl ?_)
            (try simp only [Act.put, st_a, st_0, st_s])
            refine wl_give rfl (g_len _ 26 39 ((some ⟨b, o, none⟩)) (n) (cap) (((n : Nat) : Int)) Tryd.underlying26 rfl (rfl) ?_)
            (try simp only [Act.put, st_a, st_0, st_s])
            refine wl_give rfl (g_ilss 3 _ _ .i64 (((j : Nat) : Int)) (((n : Nat) : Int)) true rfl rfl (decide_eq_true (by omega)) ?_)
            (try simp only [Act.put, st_a, st_0, st_s])
            refine wl_give rfl (g_move _ (.bool true) rfl ?_)
            (try simp only [Act.put, st_a, st_0, st_s])
            refine wl_give rfl (g_move _ (.int .i64 (((j : Nat) : Int))) rfl ?_)
            (try simp only [Act.put, st_a, st_0, st_s])
            refine wl_give rfl (g_ilss 3 _ _ .i64 (((j : Nat) : Int)) (30) true rfl rfl (decide_eq_true h30) ?_)
            (try simp only [Act.put, st_a, st_0, st_s])
            refine wl_give rfl (g_pickt _ _ _ (.bool true) rfl rfl ?_)
            (try simp only [Act.put, st_a, st_0, st_s])
            refine wl_nil ?_
            refine hK43 _ _ ?_
            (try clear hK43 K43)
            refine wp_cond_true rfl ?_
            refine wp_skip ?_
            refine hK42 _ _ ?_
            (try clear hK42 K42)
            refine wp_seq_k (fun K44 hK44 => ?_)
            refine wp_block ?_
            refine wp_seq_k (fun K45 hK45 => ?_)
            refine wp_seq_k (fun K46 hK46 => ?_)
            refine wl_region ?_
            refine wl_give rfl (g_move _ (.slice (some ⟨b, o, none⟩) (n) (cap)) rfl ?_)
            (try simp only [Act.put, st_a, st_0, st_s])
            refine wl_give rfl (g_move _ (.int .i64 (((j : Nat) : Int))) rfl ?_)
            (try simp only [Act.put, st_a, st_0, st_s])
            refine wl_give rfl (g_ix _ _ 26 39 2 Tryd.underlying26 szof39 b o n cap j (o + j * 2) _ rfl rfl rfl hjn rfl ?_)
            (try simp only [Act.put, st_a, st_0, st_s])
            refine wl_give rfl (g_ldC _ b (o + j * 2) (t) (y) rfl (cell_on hM c0) (cell_on hM c1) ?_)
            (try simp only [Act.put, st_a, st_0, st_s])
            refine wl_give rfl (g_call 12 _ _ [.agg (cac (t) (y)).toArray] (kf12 _ _) rfl ((large_no t y wr hlg).mono ?_))
            rintro e w47 ⟨rfl, t_⟩
            refine ⟨_, rfl, ?_⟩
            replace hM := hM.call t_
            clear t_
            (try simp only [Act.put, st_a, st_0, st_s])
            refine wl_nil ?_
            refine hK46 _ _ ?_
            (try clear hK46 K46)
            refine wp_cond_false rfl ?_
            refine wp_skip ?_
            refine hK45 _ _ ?_
            (try clear hK45 K45)
            refine wp_seq_k (fun K48 hK48 => ?_)
            refine wp_region_poset (by kernel_rfl) (by kernel_rfl) [11, 15, 16] [[], [], [], [], [], [], [], [], [], [], [], [], [0], [0], [0], [], [0, 1], [0, 1, 2]] [[0, 2], [2], [2], [2], [2], [0, 2], [2], [2], [2], [2], [0, 2], [2], [2], [2], [], [2], [], []] (by kernel_rfl) (Pm := Nat) (fun π => [.pointer (some ⟨p12, 0, none⟩), .slice (some ⟨b, o, none⟩) (n) (cap), .int .i64 (((j : Nat) : Int)), .pointer (some ⟨b, o + j * 2, none⟩), .pointer (some ⟨b, o + j * 2, none⟩), .int .i64 (t), .slice (some ⟨b, o, none⟩) (n) (cap), .int .i64 (((j : Nat) : Int)), .pointer (some ⟨b, o + j * 2, none⟩), .pointer (some ⟨b, o + j * 2 + 1, none⟩), .string (y), .tuple #[.agg (pkc (((i : Nat) : Int)) (y) (G) (T) (K)).toArray, .int .i64 (0)], .tuple #[.agg (pkc (((i : Nat) : Int)) (y) (G) (T) (K)).toArray, .int .i64 (0)], .agg (pkc (((i : Nat) : Int)) (y) (G) (T) (K)).toArray, .int .i64 (0), .pointer (some ⟨π, 0, none⟩), undef, .int .i64 (0)]) (fun _ => by rfl) (fun F_ π wx => (F_ = [false, false, false] ∧ Ms w wx [sn r15 (s) (P) (l), sn p12 (s) (P) (l), blk (w2.heap.size) (plc (P)) 25, blk (w.heap.size) (kc (s)) 23]) ∨ (F_ = [true, false, false] ∧ Ms w wx [sn p12 (s) (P) (((i : Nat) : Int)), sn r15 (s) (P) (l), blk (w2.heap.size) (plc (P)) 25, blk (w.heap.size) (kc (s)) 23]) ∨ (F_ = [false, true, false] ∧ Ms w wx [blk (π) (pkc (0) (⟨#[]⟩) (⟨#[]⟩) (0) (zk)) 44, sn r15 (s) (P) (l), sn p12 (s) (P) (l), blk (w2.heap.size) (plc (P)) 25, blk (w.heap.size) (kc (s)) 23]) ∨ (F_ = [true, true, false] ∧ Ms w wx [blk (π) (pkc (0) (⟨#[]⟩) (⟨#[]⟩) (0) (zk)) 44, sn p12 (s) (P) (((i : Nat) : Int)), sn r15 (s) (P) (l), blk (w2.heap.size) (plc (P)) 25, blk (w.heap.size) (kc (s)) 23]) ∨ (F_ = [true, true, true] ∧ Ms w wx [blk (π) (pkc (((i : Nat) : Int)) (y) (G) (T) (K)) 44, sn p12 (s) (P) (((i : Nat) : Int)), sn r15 (s) (P) (l), blk (w2.heap.size) (plc (P)) 25, blk (w.heap.size) (kc (s)) 23])) (0) (.inl ⟨rfl, hM.drew⟩) ?_ ?_ ?_
            · intro j_ k_ o_ F_ hj_ ho_ hf_ hn_ π wx hM
              rcases j_ with _ | _ | _ | j_
              · obtain rfl := Option.some.inj hj_
                obtain rfl := Option.some.inj ho_
                simp only [fullL, Act.put, st_a, st_s, st_0]
                rcases hM with ⟨rfl, hM⟩ | ⟨rfl, hM⟩ | ⟨rfl, hM⟩ | ⟨rfl, hM⟩ | ⟨rfl, hM⟩
                · exact gw rfl (g_call 15 _ _ [.pointer (some ⟨p12, 0, none⟩), .int .i64 (t), .string (y)] (kf15 _ _) rfl ((send_any (show Ms w wx [sn p12 (s) (P) (l), sn r15 (s) (P) (l), blk (w2.heap.size) (plc (P)) 25, blk (w.heap.size) (kc (s)) 23] from (hM.up 1 rfl)) hT (t) ht (y) (((i : Nat) : Int)) (y) (G) (T) (K) (0) (((i : Nat) : Int)) ⟨hS0⟩).mono (fun e w' ⟨h1_, h2_⟩ => ⟨_, h1_, ⟨(π), rfl, fun i h1 h2 => by rcases i with _ | _ | _ | _ | _ | _ | _ | _ | _ | _ | _ | _ | _ | _ | _ | _ | _ | _ | i <;> first | rfl | trivial | exact absurd rfl h2 | exact absurd (by decide) h1, .inr (.inl ⟨rfl, ((((h2_.up 3 rfl).up 3 rfl).up 3 rfl).up 3 rfl)⟩)⟩⟩)))
                · exact absurd hf_ (by decide)
                · exact gw rfl (g_call 15 _ _ [.pointer (some ⟨p12, 0, none⟩), .int .i64 (t), .string (y)] (kf15 _ _) rfl ((send_any (show Ms w wx [sn p12 (s) (P) (l), blk (π) (pkc (0) (⟨#[]⟩) (⟨#[]⟩) (0) (zk)) 44, sn r15 (s) (P) (l), blk (w2.heap.size) (plc (P)) 25, blk (w.heap.size) (kc (s)) 23] from (hM.up 2 rfl)) hT (t) ht (y) (((i : Nat) : Int)) (y) (G) (T) (K) (0) (((i : Nat) : Int)) ⟨hS0⟩).mono (fun e w' ⟨h1_, h2_⟩ => ⟨_, h1_, ⟨(π), rfl, fun i h1 h2 => by rcases i with _ | _ | _ | _ | _ | _ | _ | _ | _ | _ | _ | _ | _ | _ | _ | _ | _ | _ | i <;> first | rfl | trivial | exact absurd rfl h2 | exact absurd (by decide) h1, .inr (.inr (.inr (.inl ⟨rfl, (((((h2_.up 4 rfl).up 4 rfl).up 4 rfl).up 3 rfl).up 4 rfl)⟩)))⟩⟩)))
                · exact absurd hf_ (by decide)
                · exact absurd hf_ (by decide)
              · obtain rfl := Option.some.inj hj_
                obtain rfl := Option.some.inj ho_
                simp only [fullL, Act.put, st_a, st_s, st_0]
                rcases hM with ⟨rfl, hM⟩ | ⟨rfl, hM⟩ | ⟨rfl, hM⟩ | ⟨rfl, hM⟩ | ⟨rfl, hM⟩
                · exact gw rfl (g_alloc 44 (pkc (0) (⟨#[]⟩) (⟨#[]⟩) (0) (zk)) zeroPk (fun w' t_ b_ => ⟨(wx.heap.size), rfl, fun i h1 h2 => by rcases i with _ | _ | _ | _ | _ | _ | _ | _ | _ | _ | _ | _ | _ | _ | _ | _ | _ | _ | i <;> first | rfl | trivial | exact absurd rfl h2 | exact absurd (by decide) h1, .inr (.inr (.inl ⟨rfl, ((((((hM.new t_ b_).up 4 rfl).up 4 rfl).up 4 rfl).up 4 rfl).up 4 rfl)⟩))⟩))
                · exact gw rfl (g_alloc 44 (pkc (0) (⟨#[]⟩) (⟨#[]⟩) (0) (zk)) zeroPk (fun w' t_ b_ => ⟨(wx.heap.size), rfl, fun i h1 h2 => by rcases i with _ | _ | _ | _ | _ | _ | _ | _ | _ | _ | _ | _ | _ | _ | _ | _ | _ | _ | i <;> first | rfl | trivial | exact absurd rfl h2 | exact absurd (by decide) h1, .inr (.inr (.inr (.inl ⟨rfl, ((((((hM.new t_ b_).up 4 rfl).up 4 rfl).up 4 rfl).up 4 rfl).up 4 rfl)⟩)))⟩))
                · exact absurd hf_ (by decide)
                · exact absurd hf_ (by decide)
                · exact absurd hf_ (by decide)
              · obtain rfl := Option.some.inj hj_
                obtain rfl := Option.some.inj ho_
                simp only [fullL, Act.put, st_a, st_s, st_0]
                rcases hM with ⟨rfl, hM⟩ | ⟨rfl, hM⟩ | ⟨rfl, hM⟩ | ⟨rfl, hM⟩ | ⟨rfl, hM⟩
                · exact absurd (hn_ 0 (by decide)) (by decide)
                · exact absurd (hn_ 1 (by decide)) (by decide)
                · exact absurd (hn_ 0 (by decide)) (by decide)
                · exact gw rfl (g_store_all 44 _ _ (π) (pkc (((i : Nat) : Int)) (y) (G) (T) (K)) _ 44 rfl rfl (hM.get 0 rfl) (szPk _ _ _ _ _) (kk2_len _ _ _ _ _ _ _ _ _ _) (one_pkc _ _ _ _ _) (fun w' t_ b_ => ⟨(π), rfl, fun i h1 h2 => by rcases i with _ | _ | _ | _ | _ | _ | _ | _ | _ | _ | _ | _ | _ | _ | _ | _ | _ | _ | i <;> first | rfl | trivial | exact absurd rfl h2 | exact absurd (by decide) h1, .inr (.inr (.inr (.inr (⟨rfl, ((((((hM.put 0 rfl t_ b_).up 4 rfl).up 4 rfl).up 4 rfl).up 4 rfl).up 4 rfl)⟩))))⟩))
                · exact absurd hf_ (by decide)
              · simp at hj_
            · intro i_ o_ F_ ho_ hi_ hd_ hb_ π wx hM
              simp only [fullL, Act.put, st_a, st_s, st_0]
              rcases i_ with _ | _ | _ | _ | _ | _ | _ | _ | _ | _ | _ | _ | _ | _ | _ | _ | _ | _ | i_
              · obtain rfl := Option.some.inj ho_
                exact gw rfl (g_move _ (.pointer (some ⟨p12, 0, none⟩)) rfl ⟨rfl, hM⟩)
              · obtain rfl := Option.some.inj ho_
                exact gw rfl (g_move _ (.slice (some ⟨b, o, none⟩) (n) (cap)) rfl ⟨rfl, hM⟩)
              · obtain rfl := Option.some.inj ho_
                exact gw rfl (g_move _ (.int .i64 (((j : Nat) : Int))) rfl ⟨rfl, hM⟩)
              · obtain rfl := Option.some.inj ho_
                exact gw rfl (g_ix _ _ 26 39 2 Tryd.underlying26 szof39 b o n cap j (o + j * 2) _ rfl rfl rfl hjn rfl ⟨rfl, hM⟩)
              · obtain rfl := Option.some.inj ho_
                exact gw rfl (g_fa 39 _ b (o + j * 2) (o + j * 2) 0 rfl (faCa0 _ _ _) ⟨rfl, hM⟩)
              · obtain rfl := Option.some.inj ho_
                rcases hM with ⟨rfl, hM⟩ | ⟨rfl, hM⟩ | ⟨rfl, hM⟩ | ⟨rfl, hM⟩ | ⟨rfl, hM⟩
                · exact gw rfl (g_ld1 2 _ b (o + j * 2) _ rfl (ld2 _ _ _ _ (cell_on hM c0)) ⟨rfl, .inl ⟨rfl, hM⟩⟩)
                · exact absurd (hb_ 0 (by decide)) (by decide)
                · exact gw rfl (g_ld1 2 _ b (o + j * 2) _ rfl (ld2 _ _ _ _ (cell_on hM c0)) ⟨rfl, .inr (.inr (.inl ⟨rfl, hM⟩))⟩)
                · exact absurd (hb_ 0 (by decide)) (by decide)
                · exact absurd (hb_ 0 (by decide)) (by decide)
              · obtain rfl := Option.some.inj ho_
                exact gw rfl (g_move _ (.slice (some ⟨b, o, none⟩) (n) (cap)) rfl ⟨rfl, hM⟩)
              · obtain rfl := Option.some.inj ho_
                exact gw rfl (g_move _ (.int .i64 (((j : Nat) : Int))) rfl ⟨rfl, hM⟩)
              · obtain rfl := Option.some.inj ho_
                exact gw rfl (g_ix _ _ 26 39 2 Tryd.underlying26 szof39 b o n cap j (o + j * 2) _ rfl rfl rfl hjn rfl ⟨rfl, hM⟩)
              · obtain rfl := Option.some.inj ho_
                exact gw rfl (g_fa 39 _ b (o + j * 2) (o + j * 2 + 1) 1 rfl (faCa1 _ _ _) ⟨rfl, hM⟩)
              · obtain rfl := Option.some.inj ho_
                rcases hM with ⟨rfl, hM⟩ | ⟨rfl, hM⟩ | ⟨rfl, hM⟩ | ⟨rfl, hM⟩ | ⟨rfl, hM⟩
                · exact gw rfl (g_ld1 9 _ b (o + j * 2 + 1) _ rfl (ld9 _ _ _ _ (cell_on hM c1)) ⟨rfl, .inl ⟨rfl, hM⟩⟩)
                · exact absurd (hb_ 0 (by decide)) (by decide)
                · exact gw rfl (g_ld1 9 _ b (o + j * 2 + 1) _ rfl (ld9 _ _ _ _ (cell_on hM c1)) ⟨rfl, .inr (.inr (.inl ⟨rfl, hM⟩))⟩)
                · exact absurd (hb_ 0 (by decide)) (by decide)
                · exact absurd (hb_ 0 (by decide)) (by decide)
              · exact absurd (by decide) hi_
              · obtain rfl := Option.some.inj ho_
                exact gw rfl (g_move _ (.tuple #[.agg (pkc (((i : Nat) : Int)) (y) (G) (T) (K)).toArray, .int .i64 (0)]) rfl ⟨rfl, hM⟩)
              · obtain rfl := Option.some.inj ho_
                exact gw rfl (g_extract _ #[.agg (pkc (((i : Nat) : Int)) (y) (G) (T) (K)).toArray, .int .i64 (0)] 0 (.agg (pkc (((i : Nat) : Int)) (y) (G) (T) (K)).toArray) rfl rfl ⟨rfl, hM⟩)
              · obtain rfl := Option.some.inj ho_
                exact gw rfl (g_extract _ #[.agg (pkc (((i : Nat) : Int)) (y) (G) (T) (K)).toArray, .int .i64 (0)] 1 (.int .i64 (0)) rfl rfl ⟨rfl, hM⟩)
              · exact absurd (by decide) hi_
              · exact absurd (by decide) hi_
              · obtain rfl := Option.some.inj ho_
                exact gw rfl (g_assign _ (.int .i64 (0)) rfl ⟨rfl, hM⟩)
              · simp at ho_
            · simp only [fullL, Act.put, st_a, st_s, st_0]
              rintro F_ p50 w49 hF_ hM
              subst hF_
              rcases hM with ⟨h_, hM⟩ | ⟨h_, hM⟩ | ⟨h_, hM⟩ | ⟨h_, hM⟩ | ⟨h_, hM⟩
              · exact absurd h_ (by decide)
              · exact absurd h_ (by decide)
              · exact absurd h_ (by decide)
              · exact absurd h_ (by decide)
              clear h_
              replace hM : Ms w w49 [blk (p50) (pkc (((i : Nat) : Int)) (y) (G) (T) (K)) 44, sn p12 (s) (P) (((i : Nat) : Int)), sn r15 (s) (P) (l), blk (w2.heap.size) (plc (P)) 25, blk (w.heap.size) (kc (s)) 23] := hM
              refine hK48 _ _ ?_
              (try clear hK48 K48)
              refine wp_seq_k (fun K51 hK51 => ?_)
              refine wp_seq_k (fun K52 hK52 => ?_)
              refine wl_region ?_
              refine wl_give rfl (g_move _ (.int .i64 (0)) rfl ?_)
              (try simp only [Act.put, st_a, st_0, st_s])
              refine wl_give rfl (g_ine 29 _ _ .i64 (0) (0) false rfl rfl (by decide) ?_)
              (try simp only [Act.put, st_a, st_0, st_s])
              refine wl_nil ?_
              refine hK52 _ _ ?_
              (try clear hK52 K52)
              refine wp_cond_false rfl ?_
              refine wp_skip ?_
              refine hK51 _ _ ?_
              (try clear hK51 K51)
              refine wp_seq_k (fun K53 hK53 => ?_)
              refine wp_region_poset (by kernel_rfl) (by kernel_rfl) [11, 15, 16] [[], [], [], [], [], [], [], [], [], [], [], [], [0], [0], [0], [], [0, 1], [0, 1, 2]] [[0, 2], [2], [2], [2], [2], [0, 2], [2], [2], [2], [2], [0, 2], [2], [2], [2], [], [2], [], []] (by kernel_rfl) (Pm := Nat) (fun π => [.pointer (some ⟨r15, 0, none⟩), .slice (some ⟨b, o, none⟩) (n) (cap), .int .i64 (((j : Nat) : Int)), .pointer (some ⟨b, o + j * 2, none⟩), .pointer (some ⟨b, o + j * 2, none⟩), .int .i64 (t), .slice (some ⟨b, o, none⟩) (n) (cap), .int .i64 (((j : Nat) : Int)), .pointer (some ⟨b, o + j * 2, none⟩), .pointer (some ⟨b, o + j * 2 + 1, none⟩), .string (y), .tuple #[.agg (pkc (((i : Nat) : Int)) (y) (G) (T) (K)).toArray, .int .i64 (0)], .tuple #[.agg (pkc (((i : Nat) : Int)) (y) (G) (T) (K)).toArray, .int .i64 (0)], .agg (pkc (((i : Nat) : Int)) (y) (G) (T) (K)).toArray, .int .i64 (0), .pointer (some ⟨π, 0, none⟩), undef, .int .i64 (0)]) (fun _ => by rfl) (fun F_ π wx => (F_ = [false, false, false] ∧ Ms w wx [blk (p50) (pkc (((i : Nat) : Int)) (y) (G) (T) (K)) 44, sn p12 (s) (P) (((i : Nat) : Int)), sn r15 (s) (P) (l), blk (w2.heap.size) (plc (P)) 25, blk (w.heap.size) (kc (s)) 23]) ∨ (F_ = [true, false, false] ∧ Ms w wx [sn r15 (s) (P) (((i : Nat) : Int)), blk (p50) (pkc (((i : Nat) : Int)) (y) (G) (T) (K)) 44, sn p12 (s) (P) (((i : Nat) : Int)), blk (w2.heap.size) (plc (P)) 25, blk (w.heap.size) (kc (s)) 23]) ∨ (F_ = [false, true, false] ∧ Ms w wx [blk (π) (pkc (0) (⟨#[]⟩) (⟨#[]⟩) (0) (zk)) 44, blk (p50) (pkc (((i : Nat) : Int)) (y) (G) (T) (K)) 44, sn p12 (s) (P) (((i : Nat) : Int)), sn r15 (s) (P) (l), blk (w2.heap.size) (plc (P)) 25, blk (w.heap.size) (kc (s)) 23]) ∨ (F_ = [true, true, false] ∧ Ms w wx [blk (π) (pkc (0) (⟨#[]⟩) (⟨#[]⟩) (0) (zk)) 44, sn r15 (s) (P) (((i : Nat) : Int)), blk (p50) (pkc (((i : Nat) : Int)) (y) (G) (T) (K)) 44, sn p12 (s) (P) (((i : Nat) : Int)), blk (w2.heap.size) (plc (P)) 25, blk (w.heap.size) (kc (s)) 23]) ∨ (F_ = [true, true, true] ∧ Ms w wx [blk (π) (pkc (((i : Nat) : Int)) (y) (G) (T) (K)) 44, sn r15 (s) (P) (((i : Nat) : Int)), blk (p50) (pkc (((i : Nat) : Int)) (y) (G) (T) (K)) 44, sn p12 (s) (P) (((i : Nat) : Int)), blk (w2.heap.size) (plc (P)) 25, blk (w.heap.size) (kc (s)) 23])) (0) (.inl ⟨rfl, hM.drew⟩) ?_ ?_ ?_
              · intro j_ k_ o_ F_ hj_ ho_ hf_ hn_ π wx hM
                rcases j_ with _ | _ | _ | j_
                · obtain rfl := Option.some.inj hj_
                  obtain rfl := Option.some.inj ho_
                  simp only [fullL, Act.put, st_a, st_s, st_0]
                  rcases hM with ⟨rfl, hM⟩ | ⟨rfl, hM⟩ | ⟨rfl, hM⟩ | ⟨rfl, hM⟩ | ⟨rfl, hM⟩
                  · exact gw rfl (g_call 15 _ _ [.pointer (some ⟨r15, 0, none⟩), .int .i64 (t), .string (y)] (kf15 _ _) rfl ((send_any (show Ms w wx [sn r15 (s) (P) (l), blk (p50) (pkc (((i : Nat) : Int)) (y) (G) (T) (K)) 44, sn p12 (s) (P) (((i : Nat) : Int)), blk (w2.heap.size) (plc (P)) 25, blk (w.heap.size) (kc (s)) 23] from (hM.up 2 rfl)) hT (t) ht (y) (((i : Nat) : Int)) (y) (G) (T) (K) (0) (((i : Nat) : Int)) ⟨hS0⟩).mono (fun e w' ⟨h1_, h2_⟩ => ⟨_, h1_, ⟨(π), rfl, fun i h1 h2 => by rcases i with _ | _ | _ | _ | _ | _ | _ | _ | _ | _ | _ | _ | _ | _ | _ | _ | _ | _ | i <;> first | rfl | trivial | exact absurd rfl h2 | exact absurd (by decide) h1, .inr (.inl ⟨rfl, (((((h2_.up 4 rfl).up 4 rfl).up 4 rfl).up 4 rfl).up 4 rfl)⟩)⟩⟩)))
                  · exact absurd hf_ (by decide)
                  · exact gw rfl (g_call 15 _ _ [.pointer (some ⟨r15, 0, none⟩), .int .i64 (t), .string (y)] (kf15 _ _) rfl ((send_any (show Ms w wx [sn r15 (s) (P) (l), blk (π) (pkc (0) (⟨#[]⟩) (⟨#[]⟩) (0) (zk)) 44, blk (p50) (pkc (((i : Nat) : Int)) (y) (G) (T) (K)) 44, sn p12 (s) (P) (((i : Nat) : Int)), blk (w2.heap.size) (plc (P)) 25, blk (w.heap.size) (kc (s)) 23] from (hM.up 3 rfl)) hT (t) ht (y) (((i : Nat) : Int)) (y) (G) (T) (K) (0) (((i : Nat) : Int)) ⟨hS0⟩).mono (fun e w' ⟨h1_, h2_⟩ => ⟨_, h1_, ⟨(π), rfl, fun i h1 h2 => by rcases i with _ | _ | _ | _ | _ | _ | _ | _ | _ | _ | _ | _ | _ | _ | _ | _ | _ | _ | i <;> first | rfl | trivial | exact absurd rfl h2 | exact absurd (by decide) h1, .inr (.inr (.inr (.inl ⟨rfl, ((((((h2_.up 5 rfl).up 5 rfl).up 5 rfl).up 5 rfl).up 4 rfl).up 5 rfl)⟩)))⟩⟩)))
                  · exact absurd hf_ (by decide)
                  · exact absurd hf_ (by decide)
                · obtain rfl := Option.some.inj hj_
                  obtain rfl := Option.some.inj ho_
                  simp only [fullL, Act.put, st_a, st_s, st_0]
                  rcases hM with ⟨rfl, hM⟩ | ⟨rfl, hM⟩ | ⟨rfl, hM⟩ | ⟨rfl, hM⟩ | ⟨rfl, hM⟩
                  · exact gw rfl (g_alloc 44 (pkc (0) (⟨#[]⟩) (⟨#[]⟩) (0) (zk)) zeroPk (fun w' t_ b_ => ⟨(wx.heap.size), rfl, fun i h1 h2 => by rcases i with _ | _ | _ | _ | _ | _ | _ | _ | _ | _ | _ | _ | _ | _ | _ | _ | _ | _ | i <;> first | rfl | trivial | exact absurd rfl h2 | exact absurd (by decide) h1, .inr (.inr (.inl ⟨rfl, (((((((hM.new t_ b_).up 5 rfl).up 5 rfl).up 5 rfl).up 5 rfl).up 5 rfl).up 5 rfl)⟩))⟩))
                  · exact gw rfl (g_alloc 44 (pkc (0) (⟨#[]⟩) (⟨#[]⟩) (0) (zk)) zeroPk (fun w' t_ b_ => ⟨(wx.heap.size), rfl, fun i h1 h2 => by rcases i with _ | _ | _ | _ | _ | _ | _ | _ | _ | _ | _ | _ | _ | _ | _ | _ | _ | _ | i <;> first | rfl | trivial | exact absurd rfl h2 | exact absurd (by decide) h1, .inr (.inr (.inr (.inl ⟨rfl, (((((((hM.new t_ b_).up 5 rfl).up 5 rfl).up 5 rfl).up 5 rfl).up 5 rfl).up 5 rfl)⟩)))⟩))
                  · exact absurd hf_ (by decide)
                  · exact absurd hf_ (by decide)
                  · exact absurd hf_ (by decide)
                · obtain rfl := Option.some.inj hj_
                  obtain rfl := Option.some.inj ho_
                  simp only [fullL, Act.put, st_a, st_s, st_0]
                  rcases hM with ⟨rfl, hM⟩ | ⟨rfl, hM⟩ | ⟨rfl, hM⟩ | ⟨rfl, hM⟩ | ⟨rfl, hM⟩
                  · exact absurd (hn_ 0 (by decide)) (by decide)
                  · exact absurd (hn_ 1 (by decide)) (by decide)
                  · exact absurd (hn_ 0 (by decide)) (by decide)
                  · exact gw rfl (g_store_all 44 _ _ (π) (pkc (((i : Nat) : Int)) (y) (G) (T) (K)) _ 44 rfl rfl (hM.get 0 rfl) (szPk _ _ _ _ _) (kk2_len _ _ _ _ _ _ _ _ _ _) (one_pkc _ _ _ _ _) (fun w' t_ b_ => ⟨(π), rfl, fun i h1 h2 => by rcases i with _ | _ | _ | _ | _ | _ | _ | _ | _ | _ | _ | _ | _ | _ | _ | _ | _ | _ | i <;> first | rfl | trivial | exact absurd rfl h2 | exact absurd (by decide) h1, .inr (.inr (.inr (.inr (⟨rfl, (((((((hM.put 0 rfl t_ b_).up 5 rfl).up 5 rfl).up 5 rfl).up 5 rfl).up 5 rfl).up 5 rfl)⟩))))⟩))
                  · exact absurd hf_ (by decide)
                · simp at hj_
              · intro i_ o_ F_ ho_ hi_ hd_ hb_ π wx hM
                simp only [fullL, Act.put, st_a, st_s, st_0]
                rcases i_ with _ | _ | _ | _ | _ | _ | _ | _ | _ | _ | _ | _ | _ | _ | _ | _ | _ | _ | i_
                · obtain rfl := Option.some.inj ho_
                  exact gw rfl (g_move _ (.pointer (some ⟨r15, 0, none⟩)) rfl ⟨rfl, hM⟩)
                · obtain rfl := Option.some.inj ho_
                  exact gw rfl (g_move _ (.slice (some ⟨b, o, none⟩) (n) (cap)) rfl ⟨rfl, hM⟩)
                · obtain rfl := Option.some.inj ho_
                  exact gw rfl (g_move _ (.int .i64 (((j : Nat) : Int))) rfl ⟨rfl, hM⟩)
                · obtain rfl := Option.some.inj ho_
                  exact gw rfl (g_ix _ _ 26 39 2 Tryd.underlying26 szof39 b o n cap j (o + j * 2) _ rfl rfl rfl hjn rfl ⟨rfl, hM⟩)
                · obtain rfl := Option.some.inj ho_
                  exact gw rfl (g_fa 39 _ b (o + j * 2) (o + j * 2) 0 rfl (faCa0 _ _ _) ⟨rfl, hM⟩)
                · obtain rfl := Option.some.inj ho_
                  rcases hM with ⟨rfl, hM⟩ | ⟨rfl, hM⟩ | ⟨rfl, hM⟩ | ⟨rfl, hM⟩ | ⟨rfl, hM⟩
                  · exact gw rfl (g_ld1 2 _ b (o + j * 2) _ rfl (ld2 _ _ _ _ (cell_on hM c0)) ⟨rfl, .inl ⟨rfl, hM⟩⟩)
                  · exact absurd (hb_ 0 (by decide)) (by decide)
                  · exact gw rfl (g_ld1 2 _ b (o + j * 2) _ rfl (ld2 _ _ _ _ (cell_on hM c0)) ⟨rfl, .inr (.inr (.inl ⟨rfl, hM⟩))⟩)
                  · exact absurd (hb_ 0 (by decide)) (by decide)
                  · exact absurd (hb_ 0 (by decide)) (by decide)
                · obtain rfl := Option.some.inj ho_
                  exact gw rfl (g_move _ (.slice (some ⟨b, o, none⟩) (n) (cap)) rfl ⟨rfl, hM⟩)
                · obtain rfl := Option.some.inj ho_
                  exact gw rfl (g_move _ (.int .i64 (((j : Nat) : Int))) rfl ⟨rfl, hM⟩)
                · obtain rfl := Option.some.inj ho_
                  exact gw rfl (g_ix _ _ 26 39 2 Tryd.underlying26 szof39 b o n cap j (o + j * 2) _ rfl rfl rfl hjn rfl ⟨rfl, hM⟩)
                · obtain rfl := Option.some.inj ho_
                  exact gw rfl (g_fa 39 _ b (o + j * 2) (o + j * 2 + 1) 1 rfl (faCa1 _ _ _) ⟨rfl, hM⟩)
                · obtain rfl := Option.some.inj ho_
                  rcases hM with ⟨rfl, hM⟩ | ⟨rfl, hM⟩ | ⟨rfl, hM⟩ | ⟨rfl, hM⟩ | ⟨rfl, hM⟩
                  · exact gw rfl (g_ld1 9 _ b (o + j * 2 + 1) _ rfl (ld9 _ _ _ _ (cell_on hM c1)) ⟨rfl, .inl ⟨rfl, hM⟩⟩)
                  · exact absurd (hb_ 0 (by decide)) (by decide)
                  · exact gw rfl (g_ld1 9 _ b (o + j * 2 + 1) _ rfl (ld9 _ _ _ _ (cell_on hM c1)) ⟨rfl, .inr (.inr (.inl ⟨rfl, hM⟩))⟩)
                  · exact absurd (hb_ 0 (by decide)) (by decide)
                  · exact absurd (hb_ 0 (by decide)) (by decide)
                · exact absurd (by decide) hi_
                · obtain rfl := Option.some.inj ho_
                  exact gw rfl (g_move _ (.tuple #[.agg (pkc (((i : Nat) : Int)) (y) (G) (T) (K)).toArray, .int .i64 (0)]) rfl ⟨rfl, hM⟩)
                · obtain rfl := Option.some.inj ho_
                  exact gw rfl (g_extract _ #[.agg (pkc (((i : Nat) : Int)) (y) (G) (T) (K)).toArray, .int .i64 (0)] 0 (.agg (pkc (((i : Nat) : Int)) (y) (G) (T) (K)).toArray) rfl rfl ⟨rfl, hM⟩)
                · obtain rfl := Option.some.inj ho_
                  exact gw rfl (g_extract _ #[.agg (pkc (((i : Nat) : Int)) (y) (G) (T) (K)).toArray, .int .i64 (0)] 1 (.int .i64 (0)) rfl rfl ⟨rfl, hM⟩)
                · exact absurd (by decide) hi_
                · exact absurd (by decide) hi_
                · obtain rfl := Option.some.inj ho_
                  exact gw rfl (g_assign _ (.int .i64 (0)) rfl ⟨rfl, hM⟩)
                · simp at ho_
              · simp only [fullL, Act.put, st_a, st_s, st_0]
                rintro F_ p55 w54 hF_ hM
                subst hF_
                rcases hM with ⟨h_, hM⟩ | ⟨h_, hM⟩ | ⟨h_, hM⟩ | ⟨h_, hM⟩ | ⟨h_, hM⟩
                · exact absurd h_ (by decide)
                · exact absurd h_ (by decide)
                · exact absurd h_ (by decide)
                · exact absurd h_ (by decide)
                clear h_
                replace hM : Ms w w54 [blk (p55) (pkc (((i : Nat) : Int)) (y) (G) (T) (K)) 44, sn r15 (s) (P) (((i : Nat) : Int)), blk (p50) (pkc (((i : Nat) : Int)) (y) (G) (T) (K)) 44, sn p12 (s) (P) (((i : Nat) : Int)), blk (w2.heap.size) (plc (P)) 25, blk (w.heap.size) (kc (s)) 23] := hM
                refine hK53 _ _ ?_
                (try clear hK53 K53)
                refine wp_seq_k (fun K56 hK56 => ?_)
                refine wp_seq_k (fun K57 hK57 => ?_)
                refine wp_region_fixed (by kernel_rfl) (by kernel_rfl) [.pointer (some ⟨p50, 0, none⟩), .int .i64 (((i : Nat) : Int)), .int .i64 (l), .bool false, .bool false, .int .i64 (0), .bool false, .bool false, .bool false, .agg (pkc (((i : Nat) : Int)) (y) (G) (T) (K)).toArray, .agg (pkc (((i : Nat) : Int)) (y) (G) (T) (K)).toArray, .bool false, .bool false, .bool false, .pointer (some ⟨p12, 0, none⟩), .int .i64 (((i : Nat) : Int)), .pointer (some ⟨p50, 0, none⟩), .int .i64 (((i : Nat) : Int)), .bool false, .bool false] (by rfl) (fun wx => Ms w wx [blk (p55) (pkc (((i : Nat) : Int)) (y) (G) (T) (K)) 44, sn r15 (s) (P) (((i : Nat) : Int)), blk (p50) (pkc (((i : Nat) : Int)) (y) (G) (T) (K)) 44, sn p12 (s) (P) (((i : Nat) : Int)), blk (w2.heap.size) (plc (P)) 25, blk (w.heap.size) (kc (s)) 23]) hM.drew ?_ ?_
                · simp only [fullL, Act.put, st_a, st_s, st_0]
                  refine ⟨?_, ?_, ?_, ?_, ?_, ?_, ?_, ?_, ?_, ?_, ?_, ?_, ?_, ?_, ?_, ?_, ?_, ?_, ?_, ?_, trivial⟩
                  · exact fun wx hM => gw rfl (g_fa 44 _ (p50) (0) (0) 0 rfl (faPk0 _ _ _) ⟨rfl, hM⟩)
                  · exact fun wx hM => gw rfl (g_ld1 3 _ (p50) (0) _ rfl (ld3 _ _ _ _ ((hM.get 2 rfl).cell (0) _ (rfl))) ⟨rfl, hM⟩)
                  · exact fun wx hM => gw rfl (g_move _ (.int .i64 (l)) rfl ⟨rfl, hM⟩)
                  · exact fun wx hM => gw rfl (g_ilss 3 _ _ .i64 (((i : Nat) : Int)) (l) false rfl rfl (decide_eq_false hlt) ⟨rfl, hM⟩)
                  · exact fun wx hM => gw rfl (g_move _ (.bool false) rfl ⟨rfl, hM⟩)
                  · exact fun wx hM => gw rfl (g_move _ (.int .i64 (0)) rfl ⟨rfl, hM⟩)
                  · exact fun wx hM => gw rfl (g_ine 29 _ _ .i64 (0) (0) false rfl rfl (by decide) ⟨rfl, hM⟩)
                  · exact fun wx hM => gw rfl (g_pickf _ _ _ (.bool false) rfl rfl ⟨rfl, hM⟩)
                  · exact fun wx hM => gw rfl (g_move _ (.bool false) rfl ⟨rfl, hM⟩)
                  · exact fun wx hM => gw rfl (g_load_all 44 _ (p50) (pkc (((i : Nat) : Int)) (y) (G) (T) (K)) 44 _ rfl (hM.get 2 rfl) Tryd.underlying44 rfl (szPk _ _ _ _ _) ⟨rfl, hM⟩)
                  · exact fun wx hM => gw rfl (g_load_all 44 _ (p55) (pkc (((i : Nat) : Int)) (y) (G) (T) (K)) 44 _ rfl (hM.get 0 rfl) Tryd.underlying44 rfl (szPk _ _ _ _ _) ⟨rfl, hM⟩)
                  · exact fun wx hM => gw rfl (g_pkN _ _ (((i : Nat) : Int)) (y) (G) (T) (K) rfl rfl ⟨rfl, hM⟩)
                  · exact fun wx hM => gw rfl (g_pickf _ _ _ (.bool false) rfl rfl ⟨rfl, hM⟩)
                  · exact fun wx hM => gw rfl (g_move _ (.bool false) rfl ⟨rfl, hM⟩)
                  · exact fun wx hM => gw rfl (g_move _ (.pointer (some ⟨p12, 0, none⟩)) rfl ⟨rfl, hM⟩)
                  · exact fun wx hM => gw rfl (g_call 17 _ _ [.pointer (some ⟨p12, 0, none⟩)] (kf17 _ _) rfl ((last_any (show Ms w wx [sn p12 (s) (P) (((i : Nat) : Int)), blk (p55) (pkc (((i : Nat) : Int)) (y) (G) (T) (K)) 44, sn r15 (s) (P) (((i : Nat) : Int)), blk (p50) (pkc (((i : Nat) : Int)) (y) (G) (T) (K)) 44, blk (w2.heap.size) (plc (P)) 25, blk (w.heap.size) (kc (s)) 23] from (hM.up 3 rfl))).mono (fun _ _ ⟨h1_, h2_⟩ => ⟨_, h1_, rfl, hM.call h2_⟩)))
                  · exact fun wx hM => gw rfl (g_fa 44 _ (p50) (0) (0) 0 rfl (faPk0 _ _ _) ⟨rfl, hM⟩)
                  · exact fun wx hM => gw rfl (g_ld1 3 _ (p50) (0) _ rfl (ld3 _ _ _ _ ((hM.get 2 rfl).cell (0) _ (rfl))) ⟨rfl, hM⟩)
                  · exact fun wx hM => gw rfl (g_ine 3 _ _ .i64 (((i : Nat) : Int)) (((i : Nat) : Int)) false rfl rfl (decide_eq_false (fun h => h rfl)) ⟨rfl, hM⟩)
                  · exact fun wx hM => gw rfl (g_pickf _ _ _ (.bool false) rfl rfl ⟨rfl, hM⟩)
                · simp only [fullL, Act.put, st_a, st_s, st_0]
                  intro w58 hM
                  refine hK57 _ _ ?_
                  (try clear hK57 K57)
                  refine wp_cond_false rfl ?_
                  refine wp_skip ?_
                  refine hK56 _ _ ?_
                  (try clear hK56 K56)
                  refine wl_region ?_
                  refine wl_give rfl (g_fa 44 _ (p50) (0) (0) 0 rfl (faPk0 _ _ _) ?_)
                  (try simp only [Act.put, st_a, st_0, st_s])
                  refine wl_give rfl (g_ld1 3 _ (p50) (0) _ rfl (ld3 _ _ _ _ ((hM.get 2 rfl).cell (0) _ (rfl))) ?_)
                  (try simp only [Act.put, st_a, st_0, st_s])
                  refine wl_give rfl (g_assign _ (.int .i64 (((i : Nat) : Int))) rfl ?_)
                  (try simp only [Act.put, st_a, st_0, st_s])
                  refine wl_nil ?_
                  refine hK44 _ _ ?_
                  (try clear hK44 K44)
                  refine wl_region ?_
                  refine wl_give rfl (g_move _ (.int .i64 (((j : Nat) : Int))) rfl ?_)
                  (try simp only [Act.put, st_a, st_0, st_s])
                  refine wl_give rfl (g_ia 3 _ _ .i64 (((j : Nat) : Int)) (1) (((j + 1 : Nat) : Int)) rfl rfl ej.out ?_)
                  (try simp only [Act.put, st_a, st_0, st_s])
                  refine wl_give rfl (g_assign _ (.int .i64 (((j + 1 : Nat) : Int))) rfl ?_)
                  (try simp only [Act.put, st_a, st_0, st_s])
                  refine wl_nil ?_
                  (try simp only [Exit.then, Exit.inBlock, ↓reduceIte, Nat.reduceEqDiff])
                  go_roundw
                  case rel => exact ⟨j + 1, ((i : Nat) : Int), by omega, rfl, rfl, ((((((hM.erase 0).erase 1).up 3 rfl).up 3 rfl).up 3 rfl).up 3 rfl)⟩
                  case measure => simp [intOf]; omega
      · skip
        refine wp_seq_k (fun K59 hK59 => ?_)
        refine wp_seq_k (fun K60 hK60 => ?_)
        refine wl_region ?_
        refine wl_give rfl (g_move _ (.int .i64 (((j : Nat) : Int))) rfl ?_)
        (try simp only [Act.put, st_a, st_0, st_s])
        refine wl_give rfl (g_move _ (.slice ao (n) (cap)) rfl ?_)
        (try simp only [Act.put, st_a, st_0, st_s])
        refine wl_give rfl (g_len _ 26 39 (ao) (n) (cap) (((n : Nat) : Int)) Tryd.underlying26 rfl (rfl) ?_)
        (try simp only [Act.put, st_a, st_0, st_s])
        refine wl_give rfl (g_ilss 3 _ _ .i64 (((j : Nat) : Int)) (((n : Nat) : Int)) true rfl rfl (decide_eq_true (by omega)) ?_)
        (try simp only [Act.put, st_a, st_0, st_s])
        refine wl_give rfl (g_move _ (.bool true) rfl ?_)
        (try simp only [Act.put, st_a, st_0, st_s])
        refine wl_give rfl (g_move _ (.int .i64 (((j : Nat) : Int))) rfl ?_)
        (try simp only [Act.put, st_a, st_0, st_s])
        refine wl_give rfl (g_ilss 3 _ _ .i64 (((j : Nat) : Int)) (30) false rfl rfl (decide_eq_false h30) ?_)
        (try simp only [Act.put, st_a, st_0, st_s])
        refine wl_give rfl (g_pickt _ _ _ (.bool false) rfl rfl ?_)
        (try simp only [Act.put, st_a, st_0, st_s])
        refine wl_nil ?_
        refine hK60 _ _ ?_
        (try clear hK60 K60)
        refine wp_cond_false rfl ?_
        refine wp_exit ?_
        refine hK19 _ _ ?_
        (try clear hK19 K19)
        refine wp_seq_k (fun K61 hK61 => ?_)
        refine wl_region ?_
        refine wl_give rfl (g_assign _ (.bool true) rfl ?_)
        (try simp only [Act.put, st_a, st_0, st_s])
        refine wl_nil ?_
        refine hK61 _ _ ?_
        (try clear hK61 K61)
        refine wp_ret ?_
        go_ret
        exact ⟨rfl, hM.below⟩
    · skip
      refine wp_seq_k (fun K62 hK62 => ?_)
      refine wp_seq_k (fun K63 hK63 => ?_)
      refine wl_region ?_
      refine wl_give rfl (g_move _ (.int .i64 (((j : Nat) : Int))) rfl ?_)
      (try simp only [Act.put, st_a, st_0, st_s])
      refine wl_give rfl (g_move _ (.slice ao (n) (cap)) rfl ?_)
      (try simp only [Act.put, st_a, st_0, st_s])
      refine wl_give rfl (g_len _ 26 39 (ao) (n) (cap) (((n : Nat) : Int)) Tryd.underlying26 rfl (rfl) ?_)
      (try simp only [Act.put, st_a, st_0, st_s])
      refine wl_give rfl (g_ilss 3 _ _ .i64 (((j : Nat) : Int)) (((n : Nat) : Int)) false rfl rfl (decide_eq_false (by omega)) ?_)
      (try simp only [Act.put, st_a, st_0, st_s])
      refine wl_give rfl (g_move _ (.bool false) rfl ?_)
      (try simp only [Act.put, st_a, st_0, st_s])
      refine wl_skip rfl ?_
      (try simp only [Act.put, st_a, st_0, st_s])
      refine wl_skip rfl ?_
      (try simp only [Act.put, st_a, st_0, st_s])
      refine wl_give rfl (g_pickf _ _ _ (.bool false) rfl rfl ?_)
      (try simp only [Act.put, st_a, st_0, st_s])
      refine wl_nil ?_
      refine hK63 _ _ ?_
      (try clear hK63 K63)
      refine wp_cond_false rfl ?_
      refine wp_exit ?_
      refine hK19 _ _ ?_
      (try clear hK19 K19)
      refine wp_seq_k (fun K64 hK64 => ?_)
      refine wl_region ?_
      refine wl_give rfl (g_assign _ (.bool true) rfl ?_)
      (try simp only [Act.put, st_a, st_0, st_s])
      refine wl_nil ?_
      refine hK64 _ _ ?_
      (try clear hK64 K64)
      refine wp_ret ?_
      go_ret
      exact ⟨rfl, hM.below⟩
theorem walk (l0 : List UInt8) (h0 : l0.length = 32) (P : Pl) (ao : Option Addr) (n cap : Nat) (w : World) (hT : Tabs w) (hp : PIn P) (hc : LC w ao n) (hn : n ≤ cap) (hz : cap ≤ maxLen) : Calls Tryd.prog 6 #[.agg (bc l0).toArray, .agg (plc P).toArray, .slice ao n cap] w fun e w' => e = .returned (.bool true) ∧ Below w.heap.size w w' := by
  unfold maxLen at hz
  by_cases hP : POk P
  · by_cases h1 : 16 < P.ct
    · exact walk_2 ⟨l0, h0⟩ P ao n cap w hT hP h1
    · exact walk_3 ⟨l0, h0⟩ P ao n cap w hT hP h1 hc (by omega)
  · exact walk_1 ⟨l0, h0⟩ P ao n cap w hT hP
end Go.Proofs.YtphocklnhoakcaaDoor.senderRises
