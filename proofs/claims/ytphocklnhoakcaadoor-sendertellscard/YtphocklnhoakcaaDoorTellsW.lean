/- SenderTells: the walk. -/
import Derived.Test.YtphocklnhoakcaaDoorLawC
import Derived.WalkKit
import Derived.WalkSpells
import Derived.WalkLawsBesides
namespace Go.Proofs.YtphocklnhoakcaaDoor.senderTells
set_option maxRecDepth 10000
open Go Go.RowKit
set_option linter.unusedVariables false
set_option linter.unusedSimpArgs false

set_option maxHeartbeats 4000000 in
theorem walk_1 (s : Ky) (P : Pl) (ao : Option Addr) (n cap : Nat) (w : World) (hT : Tabs w) (hP : ¬ POk P) : Calls Tryd.prog 5 #[.agg (kc s).toArray, .agg (plc P).toArray, .slice ao n cap] w fun e w' => e = .returned (.bool true) ∧ Below w.heap.size w w' := by
  have hM := Ms.refl w
  go_enter Tryd.func5, Tryd.ntmps5
  refine wp_seq_k (fun K1 hK1 => ?_)
  refine wl_region ?_
  refine wl_give rfl (g_box 23 _ (kc (s)) rfl ?_)
  intro w2 t_ b_
  replace hM := hM.new t_ b_
  clear t_ b_
  (try simp only [Act.put, st_a, st_0, st_s])
  refine wl_give rfl (g_box 25 _ (plc (P)) rfl ?_)
  intro w3 t_ b_
  replace hM := hM.new t_ b_
  clear t_ b_
  (try simp only [Act.put, st_a, st_0, st_s])
  refine wl_give rfl (g_assign _ (.bool false) rfl ?_)
  (try simp only [Act.put, st_a, st_0, st_s])
  refine wl_nil ?_
  refine hK1 _ _ ?_
  (try clear hK1 K1)
  refine wp_seq_k (fun K4 hK4 => ?_)
  refine wp_seq_k (fun K5 hK5 => ?_)
  refine wl_region ?_
  refine wl_give rfl (g_call 9 _ _ [] (kf9 _ _) rfl ((awake_any w3 (hM.tabs hT)).mono ?_))
  rintro e w6 ⟨rfl, t_⟩
  refine ⟨_, rfl, ?_⟩
  replace hM := hM.call t_
  clear t_
  (try simp only [Act.put, st_a, st_0, st_s])
  refine wl_give rfl (g_unot 4 _ true rfl ?_)
  (try simp only [Act.put, st_a, st_0, st_s])
  refine wl_nil ?_
  refine hK5 _ _ ?_
  (try clear hK5 K5)
  refine wp_cond_false rfl ?_
  refine wp_skip ?_
  refine hK4 _ _ ?_
  (try clear hK4 K4)
  refine wp_seq_k (fun K7 hK7 => ?_)
  refine wp_seq_k (fun K8 hK8 => ?_)
  refine wl_region ?_
  refine wl_give rfl (g_load_all 25 _ (w2.heap.size) (plc (P)) 25 _ rfl (hM.get 0 rfl) Tryd.underlying25 rfl (szPl _) ?_)
  (try simp only [Act.put, st_a, st_0, st_s])
  refine wl_give rfl (g_call 11 _ _ [.agg (plc (P)).toArray] (kf11 _ _) rfl ((may_no P w6 hP).mono ?_))
  rintro e w9 ⟨rfl, t_⟩
  refine ⟨_, rfl, ?_⟩
  replace hM := hM.call t_
  clear t_
  (try simp only [Act.put, st_a, st_0, st_s])
  refine wl_give rfl (g_unot 4 _ false rfl ?_)
  (try simp only [Act.put, st_a, st_0, st_s])
  refine wl_give rfl (g_move _ (.bool true) rfl ?_)
  (try simp only [Act.put, st_a, st_0, st_s])
  refine wl_skip rfl ?_
  (try simp only [Act.put, st_a, st_0, st_s])
  refine wl_skip rfl ?_
  (try simp only [Act.put, st_a, st_0, st_s])
  refine wl_skip rfl ?_
  (try simp only [Act.put, st_a, st_0, st_s])
  refine wl_give rfl (g_pickt _ _ _ (.bool true) rfl rfl ?_)
  (try simp only [Act.put, st_a, st_0, st_s])
  refine wl_nil ?_
  refine hK8 _ _ ?_
  (try clear hK8 K8)
  refine wp_cond_true rfl ?_
  refine wp_seq_k (fun K10 hK10 => ?_)
  refine wl_region ?_
  refine wl_give rfl (g_assign _ (.bool true) rfl ?_)
  (try simp only [Act.put, st_a, st_0, st_s])
  refine wl_nil ?_
  refine hK10 _ _ ?_
  (try clear hK10 K10)
  refine wp_ret ?_
  go_ret
  exact ⟨rfl, hM.below⟩
set_option maxHeartbeats 4000000 in
theorem walk_2 (s : Ky) (P : Pl) (ao : Option Addr) (n cap : Nat) (w : World) (hT : Tabs w) (hP : POk P) (h1 : 16 < P.ct) : Calls Tryd.prog 5 #[.agg (kc s).toArray, .agg (plc P).toArray, .slice ao n cap] w fun e w' => e = .returned (.bool true) ∧ Below w.heap.size w w' := by
  have hM := Ms.refl w
  go_enter Tryd.func5, Tryd.ntmps5
  refine wp_seq_k (fun K1 hK1 => ?_)
  refine wl_region ?_
  refine wl_give rfl (g_box 23 _ (kc (s)) rfl ?_)
  intro w2 t_ b_
  replace hM := hM.new t_ b_
  clear t_ b_
  (try simp only [Act.put, st_a, st_0, st_s])
  refine wl_give rfl (g_box 25 _ (plc (P)) rfl ?_)
  intro w3 t_ b_
  replace hM := hM.new t_ b_
  clear t_ b_
  (try simp only [Act.put, st_a, st_0, st_s])
  refine wl_give rfl (g_assign _ (.bool false) rfl ?_)
  (try simp only [Act.put, st_a, st_0, st_s])
  refine wl_nil ?_
  refine hK1 _ _ ?_
  (try clear hK1 K1)
  refine wp_seq_k (fun K4 hK4 => ?_)
  refine wp_seq_k (fun K5 hK5 => ?_)
  refine wl_region ?_
  refine wl_give rfl (g_call 9 _ _ [] (kf9 _ _) rfl ((awake_any w3 (hM.tabs hT)).mono ?_))
  rintro e w6 ⟨rfl, t_⟩
  refine ⟨_, rfl, ?_⟩
  replace hM := hM.call t_
  clear t_
  (try simp only [Act.put, st_a, st_0, st_s])
  refine wl_give rfl (g_unot 4 _ true rfl ?_)
  (try simp only [Act.put, st_a, st_0, st_s])
  refine wl_nil ?_
  refine hK5 _ _ ?_
  (try clear hK5 K5)
  refine wp_cond_false rfl ?_
  refine wp_skip ?_
  refine hK4 _ _ ?_
  (try clear hK4 K4)
  refine wp_seq_k (fun K7 hK7 => ?_)
  refine wp_seq_k (fun K8 hK8 => ?_)
  refine wl_region ?_
  refine wl_give rfl (g_load_all 25 _ (w2.heap.size) (plc (P)) 25 _ rfl (hM.get 0 rfl) Tryd.underlying25 rfl (szPl _) ?_)
  (try simp only [Act.put, st_a, st_0, st_s])
  refine wl_give rfl (g_call 11 _ _ [.agg (plc (P)).toArray] (kf11 _ _) rfl ((may_yes P w6 hP).mono ?_))
  rintro e w9 ⟨rfl, t_⟩
  refine ⟨_, rfl, ?_⟩
  replace hM := hM.call t_
  clear t_
  (try simp only [Act.put, st_a, st_0, st_s])
  refine wl_give rfl (g_unot 4 _ true rfl ?_)
  (try simp only [Act.put, st_a, st_0, st_s])
  refine wl_give rfl (g_move _ (.bool false) rfl ?_)
  (try simp only [Act.put, st_a, st_0, st_s])
  refine wl_give rfl (g_fa 25 _ (w2.heap.size) (0) (3) 3 rfl (faPl3 _ _ _) ?_)
  (try simp only [Act.put, st_a, st_0, st_s])
  refine wl_give rfl (g_ld1 3 _ (w2.heap.size) (3) _ rfl (ld3 _ _ _ _ ((hM.get 0 rfl).cell (3) _ (rfl))) ?_)
  (try simp only [Act.put, st_a, st_0, st_s])
  refine wl_give rfl (g_igtr 3 _ _ .i64 ((P).ct) (16) true rfl rfl (decide_eq_true h1) ?_)
  (try simp only [Act.put, st_a, st_0, st_s])
  refine wl_give rfl (g_pickf _ _ _ (.bool true) rfl rfl ?_)
  (try simp only [Act.put, st_a, st_0, st_s])
  refine wl_nil ?_
  refine hK8 _ _ ?_
  (try clear hK8 K8)
  refine wp_cond_true rfl ?_
  refine wp_seq_k (fun K10 hK10 => ?_)
  refine wl_region ?_
  refine wl_give rfl (g_assign _ (.bool true) rfl ?_)
  (try simp only [Act.put, st_a, st_0, st_s])
  refine wl_nil ?_
  refine hK10 _ _ ?_
  (try clear hK10 K10)
  refine wp_ret ?_
  go_ret
  exact ⟨rfl, hM.below⟩
set_option maxHeartbeats 4000000 in
theorem walk_3 (s : Ky) (P : Pl) (ao : Option Addr) (n cap : Nat) (w : World) (hT : Tabs w) (hP : POk P) (h1 : ¬ 16 < P.ct) (hc : LC w ao n) (hn : n ≤ 9223372036854775807) : Calls Tryd.prog 5 #[.agg (kc s).toArray, .agg (plc P).toArray, .slice ao n cap] w fun e w' => e = .returned (.bool true) ∧ Below w.heap.size w w' := by
  have hM := Ms.refl w
  go_enter Tryd.func5, Tryd.ntmps5
  refine wp_seq_k (fun K1 hK1 => ?_)
  refine wl_region ?_
  refine wl_give rfl (g_box 23 _ (kc (s)) rfl ?_)
  intro w2 t_ b_
  replace hM := hM.new t_ b_
  clear t_ b_
  (try simp only [Act.put, st_a, st_0, st_s])
  refine wl_give rfl (g_box 25 _ (plc (P)) rfl ?_)
  intro w3 t_ b_
  replace hM := hM.new t_ b_
  clear t_ b_
  (try simp only [Act.put, st_a, st_0, st_s])
  refine wl_give rfl (g_assign _ (.bool false) rfl ?_)
  (try simp only [Act.put, st_a, st_0, st_s])
  refine wl_nil ?_
  refine hK1 _ _ ?_
  (try clear hK1 K1)
  refine wp_seq_k (fun K4 hK4 => ?_)
  refine wp_seq_k (fun K5 hK5 => ?_)
  refine wl_region ?_
  refine wl_give rfl (g_call 9 _ _ [] (kf9 _ _) rfl ((awake_any w3 (hM.tabs hT)).mono ?_))
  rintro e w6 ⟨rfl, t_⟩
  refine ⟨_, rfl, ?_⟩
  replace hM := hM.call t_
  clear t_
  (try simp only [Act.put, st_a, st_0, st_s])
  refine wl_give rfl (g_unot 4 _ true rfl ?_)
  (try simp only [Act.put, st_a, st_0, st_s])
  refine wl_nil ?_
  refine hK5 _ _ ?_
  (try clear hK5 K5)
  refine wp_cond_false rfl ?_
  refine wp_skip ?_
  refine hK4 _ _ ?_
  (try clear hK4 K4)
  refine wp_seq_k (fun K7 hK7 => ?_)
  refine wp_seq_k (fun K8 hK8 => ?_)
  refine wl_region ?_
  refine wl_give rfl (g_load_all 25 _ (w2.heap.size) (plc (P)) 25 _ rfl (hM.get 0 rfl) Tryd.underlying25 rfl (szPl _) ?_)
  (try simp only [Act.put, st_a, st_0, st_s])
  refine wl_give rfl (g_call 11 _ _ [.agg (plc (P)).toArray] (kf11 _ _) rfl ((may_yes P w6 hP).mono ?_))
  rintro e w9 ⟨rfl, t_⟩
  refine ⟨_, rfl, ?_⟩
  replace hM := hM.call t_
  clear t_
  (try simp only [Act.put, st_a, st_0, st_s])
  refine wl_give rfl (g_unot 4 _ true rfl ?_)
  (try simp only [Act.put, st_a, st_0, st_s])
  refine wl_give rfl (g_move _ (.bool false) rfl ?_)
  (try simp only [Act.put, st_a, st_0, st_s])
  refine wl_give rfl (g_fa 25 _ (w2.heap.size) (0) (3) 3 rfl (faPl3 _ _ _) ?_)
  (try simp only [Act.put, st_a, st_0, st_s])
  refine wl_give rfl (g_ld1 3 _ (w2.heap.size) (3) _ rfl (ld3 _ _ _ _ ((hM.get 0 rfl).cell (3) _ (rfl))) ?_)
  (try simp only [Act.put, st_a, st_0, st_s])
  refine wl_give rfl (g_igtr 3 _ _ .i64 ((P).ct) (16) false rfl rfl (decide_eq_false h1) ?_)
  (try simp only [Act.put, st_a, st_0, st_s])
  refine wl_give rfl (g_pickf _ _ _ (.bool false) rfl rfl ?_)
  (try simp only [Act.put, st_a, st_0, st_s])
  refine wl_nil ?_
  refine hK8 _ _ ?_
  (try clear hK8 K8)
  refine wp_cond_false rfl ?_
  refine wp_skip ?_
  refine hK7 _ _ ?_
  (try clear hK7 K7)
  refine wp_seq_k (fun K10 hK10 => ?_)
  refine wl_region ?_
  refine wl_give rfl (g_load_all 23 _ (w.heap.size) (kc (s)) 23 _ rfl (hM.get 1 rfl) Tryd.underlying23 rfl (szK _) ?_)
  (try simp only [Act.put, st_a, st_0, st_s])
  refine wl_give rfl (g_load_all 25 _ (w2.heap.size) (plc (P)) 25 _ rfl (hM.get 0 rfl) Tryd.underlying25 rfl (szPl _) ?_)
  (try simp only [Act.put, st_a, st_0, st_s])
  refine wl_give rfl (g_call 10 _ _ [.agg (kc (s)).toArray, .agg (plc (P)).toArray] (kf10 _ _) rfl ((snew_any (s) (P) w w9 _ hM hT hP).mono ?_))
  rintro e w11 ⟨p12, rfl, h_⟩
  refine ⟨_, rfl, ?_⟩
  replace hM : Ms w w11 [sn p12 (s) (P) (0), blk (w2.heap.size) (plc (P)) 25, blk (w.heap.size) (kc (s)) 23] := h_
  clear h_
  (try simp only [Act.put, st_a, st_0, st_s])
  refine wl_give rfl (g_move _ (.tuple #[.pointer (some ⟨p12, 0, none⟩), .int .i64 (0)]) rfl ?_)
  (try simp only [Act.put, st_a, st_0, st_s])
  refine wl_give rfl (g_extract _ #[.pointer (some ⟨p12, 0, none⟩), .int .i64 (0)] 0 (.pointer (some ⟨p12, 0, none⟩)) rfl rfl ?_)
  (try simp only [Act.put, st_a, st_0, st_s])
  refine wl_give rfl (g_extract _ #[.pointer (some ⟨p12, 0, none⟩), .int .i64 (0)] 1 (.int .i64 (0)) rfl rfl ?_)
  (try simp only [Act.put, st_a, st_0, st_s])
  refine wl_give rfl (g_assign _ (.pointer (some ⟨p12, 0, none⟩)) rfl ?_)
  (try simp only [Act.put, st_a, st_0, st_s])
  refine wl_give rfl (g_assign _ (.int .i64 (0)) rfl ?_)
  (try simp only [Act.put, st_a, st_0, st_s])
  refine wl_nil ?_
  refine hK10 _ _ ?_
  (try clear hK10 K10)
  refine wp_seq_k (fun K13 hK13 => ?_)
  refine wp_seq_k (fun K14 hK14 => ?_)
  refine wl_region ?_
  refine wl_give rfl (g_move _ (.pointer (some ⟨p12, 0, none⟩)) rfl ?_)
  (try simp only [Act.put, st_a, st_0, st_s])
  refine wl_give rfl (g_peqS _ ((some ⟨p12, 0, none⟩)) false rfl rfl ?_)
  (try simp only [Act.put, st_a, st_0, st_s])
  refine wl_give rfl (g_move _ (.bool false) rfl ?_)
  (try simp only [Act.put, st_a, st_0, st_s])
  refine wl_give rfl (g_move _ (.int .i64 (0)) rfl ?_)
  (try simp only [Act.put, st_a, st_0, st_s])
  refine wl_give rfl (g_ine 29 _ _ .i64 (0) (0) false rfl rfl (by decide) ?_)
  (try simp only [Act.put, st_a, st_0, st_s])
  refine wl_give rfl (g_pickf _ _ _ (.bool false) rfl rfl ?_)
  (try simp only [Act.put, st_a, st_0, st_s])
  refine wl_nil ?_
  refine hK14 _ _ ?_
  (try clear hK14 K14)
  refine wp_cond_false rfl ?_
  refine wp_skip ?_
  refine hK13 _ _ ?_
  (try clear hK13 K13)
  refine wp_seq_k (fun K15 hK15 => ?_)
  refine wp_seq_k (fun K16 hK16 => ?_)
  refine wl_region ?_
  refine wl_give rfl (g_assign _ (.int .i64 (0)) rfl ?_)
  (try simp only [Act.put, st_a, st_0, st_s])
  refine wl_nil ?_
  refine hK16 _ _ ?_
  (try clear hK16 K16)
  refine wp_block ?_
  go_loopw [9] (fun v9 wr => ∃ (j : Nat) (l : Int), j ≤ n ∧ v9 = .int .i64 ((j : Nat) : Int) ∧ Ms w wr [sn p12 (s) (P) (l), blk (w2.heap.size) (plc (P)) 25, blk (w.heap.size) (kc (s)) 23]) (fun v9 _ => (n - intOf v9).toNat)
  case atStart => exact ⟨0, 0, Nat.zero_le _, rfl, hM⟩
  case round =>
    clear hM
    obtain ⟨j, l, hj, rfl, hM⟩ := hrel
    by_cases hjn : j < n
    · by_cases h30 : (j : Int) < 30
      · obtain ⟨b, o, t, y, eao, c0, c1, ht⟩ := hc j hjn
        subst eao
        have ej : Shut (IntKind.i64.wrap (((j : Nat) : Int) + 1) = ((j + 1 : Nat) : Int)) := ⟨by rw [wrap_id _ (by omega) (by omega)]; omega⟩
        by_cases hlg : 1100 < y.size
        · skip
          refine wp_seq_k (fun K17 hK17 => ?_)
          refine wp_seq_k (fun K18 hK18 => ?_)
          refine wl_region ?_
          refine wl_give rfl (g_move _ (.int .i64 (((j : Nat) : Int))) rfl ?_)
          (try simp only [Act.put, st_a, st_0, st_s])
          refine wl_give rfl (g_move _ (.slice (some ⟨b, o, none⟩) (n) (cap)) rfl ?_)
          (try simp only [Act.put, st_a, st_0, st_s])
          refine wl_give rfl (g_len _ 26 39 ((some ⟨b, o, none⟩)) (n) (cap) (((n : Nat) : Int)) Tryd.underlying26 rfl (rfl) ?_)
          (try simp only [Act.put, st_a, st_0, st_s])
          refine wl_give rfl (g_ilss 3 _ _ .i64 (((j : Nat) : Int)) (((n : Nat) : Int)) true rfl rfl (decide_eq_true (by omega)) ?_)
          (try simp only [Act.put, st_a, st_0, st_s])
          refine wl_give rfl (g_move _ (.bool true) rfl ?_)
          (try simp only [Act.put, st_a, st_0, st_s])
          refine wl_give rfl (g_move _ (.int .i64 (((j : Nat) : Int))) rfl ?_)
          (try simp only [Act.put, st_a, st_0, st_s])
          refine wl_give rfl (g_ilss 3 _ _ .i64 (((j : Nat) : Int)) (30) true rfl rfl (decide_eq_true h30) ?_)
          (try simp only [Act.put, st_a, st_0, st_s])
          refine wl_give rfl (g_pickt _ _ _ (.bool true) rfl rfl ?_)
          (try simp only [Act.put, st_a, st_0, st_s])
          refine wl_nil ?_
          refine hK18 _ _ ?_
          (try clear hK18 K18)
          refine wp_cond_true rfl ?_
          refine wp_skip ?_
          refine hK17 _ _ ?_
          (try clear hK17 K17)
          refine wp_seq_k (fun K19 hK19 => ?_)
          refine wp_block ?_
          refine wp_seq_k (fun K20 hK20 => ?_)
          refine wp_seq_k (fun K21 hK21 => ?_)
          refine wl_region ?_
          refine wl_give rfl (g_move _ (.slice (some ⟨b, o, none⟩) (n) (cap)) rfl ?_)
          (try simp only [Act.put, st_a, st_0, st_s])
          refine wl_give rfl (g_move _ (.int .i64 (((j : Nat) : Int))) rfl ?_)
          (try simp only [Act.put, st_a, st_0, st_s])
          refine wl_give rfl (g_ix _ _ 26 39 2 Tryd.underlying26 szof39 b o n cap j (o + j * 2) _ rfl rfl rfl hjn rfl ?_)
          (try simp only [Act.put, st_a, st_0, st_s])
          refine wl_give rfl (g_ldC _ b (o + j * 2) (t) (y) rfl (cell_on hM c0) (cell_on hM c1) ?_)
          (try simp only [Act.put, st_a, st_0, st_s])
          refine wl_give rfl (g_call 12 _ _ [.agg (cac (t) (y)).toArray] (kf12 _ _) rfl ((large_yes t y wr hlg).mono ?_))
          rintro e w22 ⟨rfl, t_⟩
          refine ⟨_, rfl, ?_⟩
          replace hM := hM.call t_
          clear t_
          (try simp only [Act.put, st_a, st_0, st_s])
          refine wl_nil ?_
          refine hK21 _ _ ?_
          (try clear hK21 K21)
          refine wp_cond_true rfl ?_
          refine wp_seq_k (fun K23 hK23 => ?_)
          refine wl_region ?_
          refine wl_give rfl (g_assign _ (.bool true) rfl ?_)
          (try simp only [Act.put, st_a, st_0, st_s])
          refine wl_nil ?_
          refine hK23 _ _ ?_
          (try clear hK23 K23)
          refine wp_ret ?_
          go_ret
          exact ⟨rfl, hM.below⟩
        · skip
          rcases sd_cases hP s l t y with ⟨E, hE, hS0⟩ | ⟨i, i1, i2, hli, hys, hS0⟩
          · skip
            refine wp_seq_k (fun K24 hK24 => ?_)
            refine wp_seq_k (fun K25 hK25 => ?_)
            refine wl_region ?_
            refine wl_give rfl (g_move _ (.int .i64 (((j : Nat) : Int))) rfl ?_)
            (try simp only [Act.put, st_a, st_0, st_s])
            refine wl_give rfl (g_move _ (.slice (some ⟨b, o, none⟩) (n) (cap)) rfl ?_)
            (try simp only [Act.put, st_a, st_0, st_s])
            refine wl_give rfl (g_len _ 26 39 ((some ⟨b, o, none⟩)) (n) (cap) (((n : Nat) : Int)) Tryd.underlying26 rfl (rfl) ?_)
            (try simp only [Act.put, st_a, st_0, st_s])
            refine wl_give rfl (g_ilss 3 _ _ .i64 (((j : Nat) : Int)) (((n : Nat) : Int)) true rfl rfl (decide_eq_true (by omega)) ?_)
            (try simp only [Act.put, st_a, st_0, st_s])
            refine wl_give rfl (g_move _ (.bool true) rfl ?_)
            (try simp only [Act.put, st_a, st_0, st_s])
            refine wl_give rfl (g_move _ (.int .i64 (((j : Nat) : Int))) rfl ?_)
            (try simp only [Act.put, st_a, st_0, st_s])
            refine wl_give rfl (g_ilss 3 _ _ .i64 (((j : Nat) : Int)) (30) true rfl rfl (decide_eq_true h30) ?_)
            (try simp only [Act.put, st_a, st_0, st_s])
            refine wl_give rfl (g_pickt _ _ _ (.bool true) rfl rfl ?_)
            (try simp only [Act.put, st_a, st_0, st_s])
            refine wl_nil ?_
            refine hK25 _ _ ?_
            (try clear hK25 K25)
            refine wp_cond_true rfl ?_
            refine wp_skip ?_
            refine hK24 _ _ ?_
            (try clear hK24 K24)
            refine wp_seq_k (fun K26 hK26 => ?_)
            refine wp_block ?_
            refine wp_seq_k (fun K27 hK27 => ?_)
            refine wp_seq_k (fun K28 hK28 => ?_)
            refine wl_region ?_
            refine wl_give rfl (g_move _ (.slice (some ⟨b, o, none⟩) (n) (cap)) rfl ?_)
            (try simp only [Act.put, st_a, st_0, st_s])
            refine wl_give rfl (g_move _ (.int .i64 (((j : Nat) : Int))) rfl ?_)
            (try simp only [Act.put, st_a, st_0, st_s])
            refine wl_give rfl (g_ix _ _ 26 39 2 Tryd.underlying26 szof39 b o n cap j (o + j * 2) _ rfl rfl rfl hjn rfl ?_)
            (try simp only [Act.put, st_a, st_0, st_s])
            refine wl_give rfl (g_ldC _ b (o + j * 2) (t) (y) rfl (cell_on hM c0) (cell_on hM c1) ?_)
            (try simp only [Act.put, st_a, st_0, st_s])
            refine wl_give rfl (g_call 12 _ _ [.agg (cac (t) (y)).toArray] (kf12 _ _) rfl ((large_no t y wr hlg).mono ?_))
            rintro e w29 ⟨rfl, t_⟩
            refine ⟨_, rfl, ?_⟩
            replace hM := hM.call t_
            clear t_
            (try simp only [Act.put, st_a, st_0, st_s])
            refine wl_nil ?_
            refine hK28 _ _ ?_
            (try clear hK28 K28)
            refine wp_cond_false rfl ?_
            refine wp_skip ?_
            refine hK27 _ _ ?_
            (try clear hK27 K27)
            refine wp_seq_k (fun K30 hK30 => ?_)
            refine wp_region_poset (by kernel_rfl) (by kernel_rfl) [11, 15, 16] [[], [], [], [], [], [], [], [], [], [], [], [], [0], [0], [0], [], [0, 1], [0, 1, 2]] [[0, 2], [2], [2], [2], [2], [0, 2], [2], [2], [2], [2], [0, 2], [2], [2], [2], [], [2], [], []] (by kernel_rfl) (Pm := Nat) (fun π => [.pointer (some ⟨p12, 0, none⟩), .slice (some ⟨b, o, none⟩) (n) (cap), .int .i64 (((j : Nat) : Int)), .pointer (some ⟨b, o + j * 2, none⟩), .pointer (some ⟨b, o + j * 2, none⟩), .int .i64 (t), .slice (some ⟨b, o, none⟩) (n) (cap), .int .i64 (((j : Nat) : Int)), .pointer (some ⟨b, o + j * 2, none⟩), .pointer (some ⟨b, o + j * 2 + 1, none⟩), .string (y), .tuple #[.agg (pkc (0) (⟨#[]⟩) (⟨#[]⟩) (0) (zk)).toArray, .int .i64 (E)], .tuple #[.agg (pkc (0) (⟨#[]⟩) (⟨#[]⟩) (0) (zk)).toArray, .int .i64 (E)], .agg (pkc (0) (⟨#[]⟩) (⟨#[]⟩) (0) (zk)).toArray, .int .i64 (E), .pointer (some ⟨π, 0, none⟩), undef, .int .i64 (E)]) (fun _ => by rfl) (fun F_ π wx => (F_ = [false, false, false] ∧ Ms w wx [sn p12 (s) (P) (l), blk (w2.heap.size) (plc (P)) 25, blk (w.heap.size) (kc (s)) 23]) ∨ (F_ = [true, false, false] ∧ Ms w wx [sn p12 (s) (P) (l), blk (w2.heap.size) (plc (P)) 25, blk (w.heap.size) (kc (s)) 23]) ∨ (F_ = [false, true, false] ∧ Ms w wx [blk (π) (pkc (0) (⟨#[]⟩) (⟨#[]⟩) (0) (zk)) 44, sn p12 (s) (P) (l), blk (w2.heap.size) (plc (P)) 25, blk (w.heap.size) (kc (s)) 23]) ∨ (F_ = [true, true, false] ∧ Ms w wx [blk (π) (pkc (0) (⟨#[]⟩) (⟨#[]⟩) (0) (zk)) 44, sn p12 (s) (P) (l), blk (w2.heap.size) (plc (P)) 25, blk (w.heap.size) (kc (s)) 23]) ∨ (F_ = [true, true, true] ∧ Ms w wx [blk (π) (pkc (0) (⟨#[]⟩) (⟨#[]⟩) (0) (zk)) 44, sn p12 (s) (P) (l), blk (w2.heap.size) (plc (P)) 25, blk (w.heap.size) (kc (s)) 23])) (0) (.inl ⟨rfl, hM.drew⟩) ?_ ?_ ?_
            · intro j_ k_ o_ F_ hj_ ho_ hf_ hn_ π wx hM
              rcases j_ with _ | _ | _ | j_
              · obtain rfl := Option.some.inj hj_
                obtain rfl := Option.some.inj ho_
                simp only [fullL, Act.put, st_a, st_s, st_0]
                rcases hM with ⟨rfl, hM⟩ | ⟨rfl, hM⟩ | ⟨rfl, hM⟩ | ⟨rfl, hM⟩ | ⟨rfl, hM⟩
                · exact gw rfl (g_call 15 _ _ [.pointer (some ⟨p12, 0, none⟩), .int .i64 (t), .string (y)] (kf15 _ _) rfl ((send_any hM hT (t) ht (y) (0) (⟨#[]⟩) (⟨#[]⟩) (0) (zk) (E) (l) ⟨hS0⟩).mono (fun e w' ⟨h1_, h2_⟩ => ⟨_, h1_, ⟨(π), rfl, fun i h1 h2 => by rcases i with _ | _ | _ | _ | _ | _ | _ | _ | _ | _ | _ | _ | _ | _ | _ | _ | _ | _ | i <;> first | rfl | trivial | exact absurd rfl h2 | exact absurd (by decide) h1, .inr (.inl ⟨rfl, (((h2_.up 2 rfl).up 2 rfl).up 2 rfl)⟩)⟩⟩)))
                · exact absurd hf_ (by decide)
                · exact gw rfl (g_call 15 _ _ [.pointer (some ⟨p12, 0, none⟩), .int .i64 (t), .string (y)] (kf15 _ _) rfl ((send_any (show Ms w wx [sn p12 (s) (P) (l), blk (π) (pkc (0) (⟨#[]⟩) (⟨#[]⟩) (0) (zk)) 44, blk (w2.heap.size) (plc (P)) 25, blk (w.heap.size) (kc (s)) 23] from (hM.up 1 rfl)) hT (t) ht (y) (0) (⟨#[]⟩) (⟨#[]⟩) (0) (zk) (E) (l) ⟨hS0⟩).mono (fun e w' ⟨h1_, h2_⟩ => ⟨_, h1_, ⟨(π), rfl, fun i h1 h2 => by rcases i with _ | _ | _ | _ | _ | _ | _ | _ | _ | _ | _ | _ | _ | _ | _ | _ | _ | _ | i <;> first | rfl | trivial | exact absurd rfl h2 | exact absurd (by decide) h1, .inr (.inr (.inr (.inl ⟨rfl, ((((h2_.up 3 rfl).up 3 rfl).up 2 rfl).up 3 rfl)⟩)))⟩⟩)))
                · exact absurd hf_ (by decide)
                · exact absurd hf_ (by decide)
              · obtain rfl := Option.some.inj hj_
                obtain rfl := Option.some.inj ho_
                simp only [fullL, Act.put, st_a, st_s, st_0]
                rcases hM with ⟨rfl, hM⟩ | ⟨rfl, hM⟩ | ⟨rfl, hM⟩ | ⟨rfl, hM⟩ | ⟨rfl, hM⟩
                · exact gw rfl (g_alloc 44 (pkc (0) (⟨#[]⟩) (⟨#[]⟩) (0) (zk)) zeroPk (fun w' t_ b_ => ⟨(wx.heap.size), rfl, fun i h1 h2 => by rcases i with _ | _ | _ | _ | _ | _ | _ | _ | _ | _ | _ | _ | _ | _ | _ | _ | _ | _ | i <;> first | rfl | trivial | exact absurd rfl h2 | exact absurd (by decide) h1, .inr (.inr (.inl ⟨rfl, (((((hM.new t_ b_).up 3 rfl).up 3 rfl).up 3 rfl).up 3 rfl)⟩))⟩))
                · exact gw rfl (g_alloc 44 (pkc (0) (⟨#[]⟩) (⟨#[]⟩) (0) (zk)) zeroPk (fun w' t_ b_ => ⟨(wx.heap.size), rfl, fun i h1 h2 => by rcases i with _ | _ | _ | _ | _ | _ | _ | _ | _ | _ | _ | _ | _ | _ | _ | _ | _ | _ | i <;> first | rfl | trivial | exact absurd rfl h2 | exact absurd (by decide) h1, .inr (.inr (.inr (.inl ⟨rfl, (((((hM.new t_ b_).up 3 rfl).up 3 rfl).up 3 rfl).up 3 rfl)⟩)))⟩))
                · exact absurd hf_ (by decide)
                · exact absurd hf_ (by decide)
                · exact absurd hf_ (by decide)
              · obtain rfl := Option.some.inj hj_
                obtain rfl := Option.some.inj ho_
                simp only [fullL, Act.put, st_a, st_s, st_0]
                rcases hM with ⟨rfl, hM⟩ | ⟨rfl, hM⟩ | ⟨rfl, hM⟩ | ⟨rfl, hM⟩ | ⟨rfl, hM⟩
                · exact absurd (hn_ 0 (by decide)) (by decide)
                · exact absurd (hn_ 1 (by decide)) (by decide)
                · exact absurd (hn_ 0 (by decide)) (by decide)
                · exact gw rfl (g_store_all 44 _ _ (π) (pkc (0) (⟨#[]⟩) (⟨#[]⟩) (0) (zk)) _ 44 rfl rfl (hM.get 0 rfl) (szPk _ _ _ _ _) (kk2_len _ _ _ _ _ _ _ _ _ _) (one_pkc _ _ _ _ _) (fun w' t_ b_ => ⟨(π), rfl, fun i h1 h2 => by rcases i with _ | _ | _ | _ | _ | _ | _ | _ | _ | _ | _ | _ | _ | _ | _ | _ | _ | _ | i <;> first | rfl | trivial | exact absurd rfl h2 | exact absurd (by decide) h1, .inr (.inr (.inr (.inr (⟨rfl, (((((hM.put 0 rfl t_ b_).up 3 rfl).up 3 rfl).up 3 rfl).up 3 rfl)⟩))))⟩))
                · exact absurd hf_ (by decide)
              · simp at hj_
            · intro i_ o_ F_ ho_ hi_ hd_ hb_ π wx hM
              simp only [fullL, Act.put, st_a, st_s, st_0]
              rcases i_ with _ | _ | _ | _ | _ | _ | _ | _ | _ | _ | _ | _ | _ | _ | _ | _ | _ | _ | i_
              · obtain rfl := Option.some.inj ho_
                exact gw rfl (g_move _ (.pointer (some ⟨p12, 0, none⟩)) rfl ⟨rfl, hM⟩)
              · obtain rfl := Option.some.inj ho_
                exact gw rfl (g_move _ (.slice (some ⟨b, o, none⟩) (n) (cap)) rfl ⟨rfl, hM⟩)
              · obtain rfl := Option.some.inj ho_
                exact gw rfl (g_move _ (.int .i64 (((j : Nat) : Int))) rfl ⟨rfl, hM⟩)
              · obtain rfl := Option.some.inj ho_
                exact gw rfl (g_ix _ _ 26 39 2 Tryd.underlying26 szof39 b o n cap j (o + j * 2) _ rfl rfl rfl hjn rfl ⟨rfl, hM⟩)
              · obtain rfl := Option.some.inj ho_
                exact gw rfl (g_fa 39 _ b (o + j * 2) (o + j * 2) 0 rfl (faCa0 _ _ _) ⟨rfl, hM⟩)
              · obtain rfl := Option.some.inj ho_
                rcases hM with ⟨rfl, hM⟩ | ⟨rfl, hM⟩ | ⟨rfl, hM⟩ | ⟨rfl, hM⟩ | ⟨rfl, hM⟩
                · exact gw rfl (g_ld1 2 _ b (o + j * 2) _ rfl (ld2 _ _ _ _ (cell_on hM c0)) ⟨rfl, .inl ⟨rfl, hM⟩⟩)
                · exact absurd (hb_ 0 (by decide)) (by decide)
                · exact gw rfl (g_ld1 2 _ b (o + j * 2) _ rfl (ld2 _ _ _ _ (cell_on hM c0)) ⟨rfl, .inr (.inr (.inl ⟨rfl, hM⟩))⟩)
                · exact absurd (hb_ 0 (by decide)) (by decide)
                · exact absurd (hb_ 0 (by decide)) (by decide)
              · obtain rfl := Option.some.inj ho_
                exact gw rfl (g_move _ (.slice (some ⟨b, o, none⟩) (n) (cap)) rfl ⟨rfl, hM⟩)
              · obtain rfl := Option.some.inj ho_
                exact gw rfl (g_move _ (.int .i64 (((j : Nat) : Int))) rfl ⟨rfl, hM⟩)
              · obtain rfl := Option.some.inj ho_
                exact gw rfl (g_ix _ _ 26 39 2 Tryd.underlying26 szof39 b o n cap j (o + j * 2) _ rfl rfl rfl hjn rfl ⟨rfl, hM⟩)
              · obtain rfl := Option.some.inj ho_
                exact gw rfl (g_fa 39 _ b (o + j * 2) (o + j * 2 + 1) 1 rfl (faCa1 _ _ _) ⟨rfl, hM⟩)
              · obtain rfl := Option.some.inj ho_
                rcases hM with ⟨rfl, hM⟩ | ⟨rfl, hM⟩ | ⟨rfl, hM⟩ | ⟨rfl, hM⟩ | ⟨rfl, hM⟩
                · exact gw rfl (g_ld1 9 _ b (o + j * 2 + 1) _ rfl (ld9 _ _ _ _ (cell_on hM c1)) ⟨rfl, .inl ⟨rfl, hM⟩⟩)
                · exact absurd (hb_ 0 (by decide)) (by decide)
                · exact gw rfl (g_ld1 9 _ b (o + j * 2 + 1) _ rfl (ld9 _ _ _ _ (cell_on hM c1)) ⟨rfl, .inr (.inr (.inl ⟨rfl, hM⟩))⟩)
                · exact absurd (hb_ 0 (by decide)) (by decide)
                · exact absurd (hb_ 0 (by decide)) (by decide)
              · exact absurd (by decide) hi_
              · obtain rfl := Option.some.inj ho_
                exact gw rfl (g_move _ (.tuple #[.agg (pkc (0) (⟨#[]⟩) (⟨#[]⟩) (0) (zk)).toArray, .int .i64 (E)]) rfl ⟨rfl, hM⟩)
              · obtain rfl := Option.some.inj ho_
                exact gw rfl (g_extract _ #[.agg (pkc (0) (⟨#[]⟩) (⟨#[]⟩) (0) (zk)).toArray, .int .i64 (E)] 0 (.agg (pkc (0) (⟨#[]⟩) (⟨#[]⟩) (0) (zk)).toArray) rfl rfl ⟨rfl, hM⟩)
              · obtain rfl := Option.some.inj ho_
                exact gw rfl (g_extract _ #[.agg (pkc (0) (⟨#[]⟩) (⟨#[]⟩) (0) (zk)).toArray, .int .i64 (E)] 1 (.int .i64 (E)) rfl rfl ⟨rfl, hM⟩)
              · exact absurd (by decide) hi_
              · exact absurd (by decide) hi_
              · obtain rfl := Option.some.inj ho_
                exact gw rfl (g_assign _ (.int .i64 (E)) rfl ⟨rfl, hM⟩)
              · simp at ho_
            · simp only [fullL, Act.put, st_a, st_s, st_0]
              rintro F_ p32 w31 hF_ hM
              subst hF_
              rcases hM with ⟨h_, hM⟩ | ⟨h_, hM⟩ | ⟨h_, hM⟩ | ⟨h_, hM⟩ | ⟨h_, hM⟩
              · exact absurd h_ (by decide)
              · exact absurd h_ (by decide)
              · exact absurd h_ (by decide)
              · exact absurd h_ (by decide)
              clear h_
              replace hM : Ms w w31 [blk (p32) (pkc (0) (⟨#[]⟩) (⟨#[]⟩) (0) (zk)) 44, sn p12 (s) (P) (l), blk (w2.heap.size) (plc (P)) 25, blk (w.heap.size) (kc (s)) 23] := hM
              refine hK30 _ _ ?_
              (try clear hK30 K30)
              refine wp_seq_k (fun K33 hK33 => ?_)
              refine wp_seq_k (fun K34 hK34 => ?_)
              refine wl_region ?_
              refine wl_give rfl (g_move _ (.int .i64 (E)) rfl ?_)
              (try simp only [Act.put, st_a, st_0, st_s])
              refine wl_give rfl (g_ine 29 _ _ .i64 (E) (0) true rfl rfl (decide_eq_true hE) ?_)
              (try simp only [Act.put, st_a, st_0, st_s])
              refine wl_nil ?_
              refine hK34 _ _ ?_
              (try clear hK34 K34)
              refine wp_cond_true rfl ?_
              refine wp_seq_k (fun K35 hK35 => ?_)
              refine wp_seq_k (fun K36 hK36 => ?_)
              refine wl_region ?_
              refine wl_give rfl (g_load_all 44 _ (p32) (pkc (0) (⟨#[]⟩) (⟨#[]⟩) (0) (zk)) 44 _ rfl (hM.get 0 rfl) Tryd.underlying44 rfl (szPk _ _ _ _ _) ?_)
              (try simp only [Act.put, st_a, st_0, st_s])
              refine wl_give rfl (g_bldPk0 ?_)
              (try simp only [Act.put, st_a, st_0, st_s])
              refine wl_give rfl (g_pkN _ _ (0) (⟨#[]⟩) (⟨#[]⟩) (0) (zk) rfl rfl ?_)
              (try simp only [Act.put, st_a, st_0, st_s])
              refine wl_nil ?_
              refine hK36 _ _ ?_
              (try clear hK36 K36)
              refine wp_cond_false rfl ?_
              refine wp_skip ?_
              refine hK35 _ _ ?_
              (try clear hK35 K35)
              refine wp_exit ?_
              refine hK26 _ _ ?_
              (try clear hK26 K26)
              refine wl_region ?_
              refine wl_give rfl (g_move _ (.int .i64 (((j : Nat) : Int))) rfl ?_)
              (try simp only [Act.put, st_a, st_0, st_s])
              refine wl_give rfl (g_ia 3 _ _ .i64 (((j : Nat) : Int)) (1) (((j + 1 : Nat) : Int)) rfl rfl ej.out ?_)
              (try simp only [Act.put, st_a, st_0, st_s])
              refine wl_give rfl (g_assign _ (.int .i64 (((j + 1 : Nat) : Int))) rfl ?_)
              (try simp only [Act.put, st_a, st_0, st_s])
              refine wl_nil ?_
              (try simp only [Exit.then, Exit.inBlock, ↓reduceIte, Nat.reduceEqDiff])
              go_roundw
              case rel => exact ⟨j + 1, l, by omega, rfl, ((((hM.erase 0).up 2 rfl).up 2 rfl).up 2 rfl)⟩
              case measure => simp [intOf]; omega
          · have hKa : Shut (ky s P.ct ((i : Nat) : Int) = (kyk s P i, 0)) := ⟨ky_kyk hP (by omega) i2⟩
            obtain ⟨Ka, eKa⟩ : ∃ Ka, kyk s P i = Ka := ⟨_, rfl⟩
            rw [eKa] at hKa hS0
            obtain ⟨G, eG⟩ : ∃ G, tgs Ka i y = G := ⟨_, rfl⟩
            rw [eG] at hS0
            have hGs : G.size ≤ maxLen := by rw [← eG, tgs_size]; unfold maxLen; decide
            have hR : Shut (decide (G = tgs Ka i y) = true) := ⟨decide_eq_true eG.symm⟩
            have hte := pte_le hP (i := (i : Int)) (by omega) i2
            by_cases hT0 : 0 < pte P i
            · skip
              obtain ⟨K, eK⟩ : ∃ K, kyk s P (pte P i) = K := ⟨_, rfl⟩
              obtain ⟨T, eT⟩ : ∃ T, pte P i = T := ⟨_, rfl⟩
              rw [if_pos hT0, eK, eT] at hS0
              rw [eT] at hte hT0 eK
              have hKt : Shut (ky s P.ct T = (K, 0)) := ⟨by rw [ky_kyk hP (by omega) (by omega), eK]⟩
              have eTs : Shut (IntKind.i64.wrap (((i : Nat) : Int) - P.dl) = T) := ⟨by rw [wrap_id _ (by omega) (by omega)]; omega⟩
              have hT1 : ¬ T = 0 := by omega
              clear eKa eG
              refine wp_seq_k (fun K37 hK37 => ?_)
              refine wp_seq_k (fun K38 hK38 => ?_)
              refine wl_region ?_
              refine wl_give rfl (g_move _ (.int .i64 (((j : Nat) : Int))) rfl ?_)
              (try simp only [Act.put, st_a, st_0, st_s])
              refine wl_give rfl (g_move _ (.slice (some ⟨b, o, none⟩) (n) (cap)) rfl ?_)
              (try simp only [Act.put, st_a, st_0, st_s])
              refine wl_give rfl (g_len _ 26 39 ((some ⟨b, o, none⟩)) (n) (cap) (((n : Nat) : Int)) Tryd.underlying26 rfl (rfl) ?_)
              (try simp only [Act.put, st_a, st_0, st_s])
              refine wl_give rfl (g_ilss 3 _ _ .i64 (((j : Nat) : Int)) (((n : Nat) : Int)) true rfl rfl (decide_eq_true (by omega)) ?_)
              (try simp only [Act.put, st_a, st_0, st_s])
              refine wl_give rfl (g_move _ (.bool true) rfl ?_)
              (try simp only [Act.put, st_a, st_0, st_s])
              refine wl_give rfl (g_move _ (.int .i64 (((j : Nat) : Int))) rfl ?_)
              (try simp only [Act.put, st_a, st_0, st_s])
              refine wl_give rfl (g_ilss 3 _ _ .i64 (((j : Nat) : Int)) (30) true rfl rfl (decide_eq_true h30) ?_)
              (try simp only [Act.put, st_a, st_0, st_s])
              refine wl_give rfl (g_pickt _ _ _ (.bool true) rfl rfl ?_)
              (try simp only [Act.put, st_a, st_0, st_s])
              refine wl_nil ?_
              refine hK38 _ _ ?_
              (try clear hK38 K38)
              refine wp_cond_true rfl ?_
              refine wp_skip ?_
              refine hK37 _ _ ?_
              (try clear hK37 K37)
              refine wp_seq_k (fun K39 hK39 => ?_)
              refine wp_block ?_
              refine wp_seq_k (fun K40 hK40 => ?_)
              refine wp_seq_k (fun K41 hK41 => ?_)
              refine wl_region ?_
              refine wl_give rfl (g_move _ (.slice (some ⟨b, o, none⟩) (n) (cap)) rfl ?_)
              (try simp only [Act.put, st_a, st_0, st_s])
              refine wl_give rfl (g_move _ (.int .i64 (((j : Nat) : Int))) rfl ?_)
              (try simp only [Act.put, st_a, st_0, st_s])
              refine wl_give rfl (g_ix _ _ 26 39 2 Tryd.underlying26 szof39 b o n cap j (o + j * 2) _ rfl rfl rfl hjn rfl ?_)
              (try simp only [Act.put, st_a, st_0, st_s])
              refine wl_give rfl (g_ldC _ b (o + j * 2) (t) (y) rfl (cell_on hM c0) (cell_on hM c1) ?_)
              (try simp only [Act.put, st_a, st_0, st_s])
              refine wl_give rfl (g_call 12 _ _ [.agg (cac (t) (y)).toArray] (kf12 _ _) rfl ((large_no t y wr hlg).mono ?_))
              rintro e w42 ⟨rfl, t_⟩
              refine ⟨_, rfl, ?_⟩
              replace hM := hM.call t_
              clear t_
              (try simp only [Act.put, st_a, st_0, st_s])
              refine wl_nil ?_
              refine hK41 _ _ ?_
              (try clear hK41 K41)
              refine wp_cond_false rfl ?_
              refine wp_skip ?_
              refine hK40 _ _ ?_
              (try clear hK40 K40)
              refine wp_seq_k (fun K43 hK43 => ?_)
              refine wp_region_poset (by kernel_rfl) (by kernel_rfl) [11, 15, 16] [[], [], [], [], [], [], [], [], [], [], [], [], [0], [0], [0], [], [0, 1], [0, 1, 2]] [[0, 2], [2], [2], [2], [2], [0, 2], [2], [2], [2], [2], [0, 2], [2], [2], [2], [], [2], [], []] (by kernel_rfl) (Pm := Nat) (fun π => [.pointer (some ⟨p12, 0, none⟩), .slice (some ⟨b, o, none⟩) (n) (cap), .int .i64 (((j : Nat) : Int)), .pointer (some ⟨b, o + j * 2, none⟩), .pointer (some ⟨b, o + j * 2, none⟩), .int .i64 (t), .slice (some ⟨b, o, none⟩) (n) (cap), .int .i64 (((j : Nat) : Int)), .pointer (some ⟨b, o + j * 2, none⟩), .pointer (some ⟨b, o + j * 2 + 1, none⟩), .string (y), .tuple #[.agg (pkc (((i : Nat) : Int)) (y) (G) (T) (K)).toArray, .int .i64 (0)], .tuple #[.agg (pkc (((i : Nat) : Int)) (y) (G) (T) (K)).toArray, .int .i64 (0)], .agg (pkc (((i : Nat) : Int)) (y) (G) (T) (K)).toArray, .int .i64 (0), .pointer (some ⟨π, 0, none⟩), undef, .int .i64 (0)]) (fun _ => by rfl) (fun F_ π wx => (F_ = [false, false, false] ∧ Ms w wx [sn p12 (s) (P) (l), blk (w2.heap.size) (plc (P)) 25, blk (w.heap.size) (kc (s)) 23]) ∨ (F_ = [true, false, false] ∧ Ms w wx [sn p12 (s) (P) (((i : Nat) : Int)), blk (w2.heap.size) (plc (P)) 25, blk (w.heap.size) (kc (s)) 23]) ∨ (F_ = [false, true, false] ∧ Ms w wx [blk (π) (pkc (0) (⟨#[]⟩) (⟨#[]⟩) (0) (zk)) 44, sn p12 (s) (P) (l), blk (w2.heap.size) (plc (P)) 25, blk (w.heap.size) (kc (s)) 23]) ∨ (F_ = [true, true, false] ∧ Ms w wx [blk (π) (pkc (0) (⟨#[]⟩) (⟨#[]⟩) (0) (zk)) 44, sn p12 (s) (P) (((i : Nat) : Int)), blk (w2.heap.size) (plc (P)) 25, blk (w.heap.size) (kc (s)) 23]) ∨ (F_ = [true, true, true] ∧ Ms w wx [blk (π) (pkc (((i : Nat) : Int)) (y) (G) (T) (K)) 44, sn p12 (s) (P) (((i : Nat) : Int)), blk (w2.heap.size) (plc (P)) 25, blk (w.heap.size) (kc (s)) 23])) (0) (.inl ⟨rfl, hM.drew⟩) ?_ ?_ ?_
              · intro j_ k_ o_ F_ hj_ ho_ hf_ hn_ π wx hM
                rcases j_ with _ | _ | _ | j_
                · obtain rfl := Option.some.inj hj_
                  obtain rfl := Option.some.inj ho_
                  simp only [fullL, Act.put, st_a, st_s, st_0]
                  rcases hM with ⟨rfl, hM⟩ | ⟨rfl, hM⟩ | ⟨rfl, hM⟩ | ⟨rfl, hM⟩ | ⟨rfl, hM⟩
                  · exact gw rfl (g_call 15 _ _ [.pointer (some ⟨p12, 0, none⟩), .int .i64 (t), .string (y)] (kf15 _ _) rfl ((send_any hM hT (t) ht (y) (((i : Nat) : Int)) (y) (G) (T) (K) (0) (((i : Nat) : Int)) ⟨hS0⟩).mono (fun e w' ⟨h1_, h2_⟩ => ⟨_, h1_, ⟨(π), rfl, fun i h1 h2 => by rcases i with _ | _ | _ | _ | _ | _ | _ | _ | _ | _ | _ | _ | _ | _ | _ | _ | _ | _ | i <;> first | rfl | trivial | exact absurd rfl h2 | exact absurd (by decide) h1, .inr (.inl ⟨rfl, (((h2_.up 2 rfl).up 2 rfl).up 2 rfl)⟩)⟩⟩)))
                  · exact absurd hf_ (by decide)
                  · exact gw rfl (g_call 15 _ _ [.pointer (some ⟨p12, 0, none⟩), .int .i64 (t), .string (y)] (kf15 _ _) rfl ((send_any (show Ms w wx [sn p12 (s) (P) (l), blk (π) (pkc (0) (⟨#[]⟩) (⟨#[]⟩) (0) (zk)) 44, blk (w2.heap.size) (plc (P)) 25, blk (w.heap.size) (kc (s)) 23] from (hM.up 1 rfl)) hT (t) ht (y) (((i : Nat) : Int)) (y) (G) (T) (K) (0) (((i : Nat) : Int)) ⟨hS0⟩).mono (fun e w' ⟨h1_, h2_⟩ => ⟨_, h1_, ⟨(π), rfl, fun i h1 h2 => by rcases i with _ | _ | _ | _ | _ | _ | _ | _ | _ | _ | _ | _ | _ | _ | _ | _ | _ | _ | i <;> first | rfl | trivial | exact absurd rfl h2 | exact absurd (by decide) h1, .inr (.inr (.inr (.inl ⟨rfl, ((((h2_.up 3 rfl).up 3 rfl).up 2 rfl).up 3 rfl)⟩)))⟩⟩)))
                  · exact absurd hf_ (by decide)
                  · exact absurd hf_ (by decide)
                · obtain rfl := Option.some.inj hj_
                  obtain rfl := Option.some.inj ho_
                  simp only [fullL, Act.put, st_a, st_s, st_0]
                  rcases hM with ⟨rfl, hM⟩ | ⟨rfl, hM⟩ | ⟨rfl, hM⟩ | ⟨rfl, hM⟩ | ⟨rfl, hM⟩
                  · exact gw rfl (g_alloc 44 (pkc (0) (⟨#[]⟩) (⟨#[]⟩) (0) (zk)) zeroPk (fun w' t_ b_ => ⟨(wx.heap.size), rfl, fun i h1 h2 => by rcases i with _ | _ | _ | _ | _ | _ | _ | _ | _ | _ | _ | _ | _ | _ | _ | _ | _ | _ | i <;> first | rfl | trivial | exact absurd rfl h2 | exact absurd (by decide) h1, .inr (.inr (.inl ⟨rfl, (((((hM.new t_ b_).up 3 rfl).up 3 rfl).up 3 rfl).up 3 rfl)⟩))⟩))
                  · exact gw rfl (g_alloc 44 (pkc (0) (⟨#[]⟩) (⟨#[]⟩) (0) (zk)) zeroPk (fun w' t_ b_ => ⟨(wx.heap.size), rfl, fun i h1 h2 => by rcases i with _ | _ | _ | _ | _ | _ | _ | _ | _ | _ | _ | _ | _ | _ | _ | _ | _ | _ | i <;> first | rfl | trivial | exact absurd rfl h2 | exact absurd (by decide) h1, .inr (.inr (.inr (.inl ⟨rfl, (((((hM.new t_ b_).up 3 rfl).up 3 rfl).up 3 rfl).up 3 rfl)⟩)))⟩))
                  · exact absurd hf_ (by decide)
                  · exact absurd hf_ (by decide)
                  · exact absurd hf_ (by decide)
                · obtain rfl := Option.some.inj hj_
                  obtain rfl := Option.some.inj ho_
                  simp only [fullL, Act.put, st_a, st_s, st_0]
                  rcases hM with ⟨rfl, hM⟩ | ⟨rfl, hM⟩ | ⟨rfl, hM⟩ | ⟨rfl, hM⟩ | ⟨rfl, hM⟩
                  · exact absurd (hn_ 0 (by decide)) (by decide)
                  · exact absurd (hn_ 1 (by decide)) (by decide)
                  · exact absurd (hn_ 0 (by decide)) (by decide)
                  · exact gw rfl (g_store_all 44 _ _ (π) (pkc (((i : Nat) : Int)) (y) (G) (T) (K)) _ 44 rfl rfl (hM.get 0 rfl) (szPk _ _ _ _ _) (kk2_len _ _ _ _ _ _ _ _ _ _) (one_pkc _ _ _ _ _) (fun w' t_ b_ => ⟨(π), rfl, fun i h1 h2 => by rcases i with _ | _ | _ | _ | _ | _ | _ | _ | _ | _ | _ | _ | _ | _ | _ | _ | _ | _ | i <;> first | rfl | trivial | exact absurd rfl h2 | exact absurd (by decide) h1, .inr (.inr (.inr (.inr (⟨rfl, (((((hM.put 0 rfl t_ b_).up 3 rfl).up 3 rfl).up 3 rfl).up 3 rfl)⟩))))⟩))
                  · exact absurd hf_ (by decide)
                · simp at hj_
              · intro i_ o_ F_ ho_ hi_ hd_ hb_ π wx hM
                simp only [fullL, Act.put, st_a, st_s, st_0]
                rcases i_ with _ | _ | _ | _ | _ | _ | _ | _ | _ | _ | _ | _ | _ | _ | _ | _ | _ | _ | i_
                · obtain rfl := Option.some.inj ho_
                  exact gw rfl (g_move _ (.pointer (some ⟨p12, 0, none⟩)) rfl ⟨rfl, hM⟩)
                · obtain rfl := Option.some.inj ho_
                  exact gw rfl (g_move _ (.slice (some ⟨b, o, none⟩) (n) (cap)) rfl ⟨rfl, hM⟩)
                · obtain rfl := Option.some.inj ho_
                  exact gw rfl (g_move _ (.int .i64 (((j : Nat) : Int))) rfl ⟨rfl, hM⟩)
                · obtain rfl := Option.some.inj ho_
                  exact gw rfl (g_ix _ _ 26 39 2 Tryd.underlying26 szof39 b o n cap j (o + j * 2) _ rfl rfl rfl hjn rfl ⟨rfl, hM⟩)
                · obtain rfl := Option.some.inj ho_
                  exact gw rfl (g_fa 39 _ b (o + j * 2) (o + j * 2) 0 rfl (faCa0 _ _ _) ⟨rfl, hM⟩)
                · obtain rfl := Option.some.inj ho_
                  rcases hM with ⟨rfl, hM⟩ | ⟨rfl, hM⟩ | ⟨rfl, hM⟩ | ⟨rfl, hM⟩ | ⟨rfl, hM⟩
                  · exact gw rfl (g_ld1 2 _ b (o + j * 2) _ rfl (ld2 _ _ _ _ (cell_on hM c0)) ⟨rfl, .inl ⟨rfl, hM⟩⟩)
                  · exact absurd (hb_ 0 (by decide)) (by decide)
                  · exact gw rfl (g_ld1 2 _ b (o + j * 2) _ rfl (ld2 _ _ _ _ (cell_on hM c0)) ⟨rfl, .inr (.inr (.inl ⟨rfl, hM⟩))⟩)
                  · exact absurd (hb_ 0 (by decide)) (by decide)
                  · exact absurd (hb_ 0 (by decide)) (by decide)
                · obtain rfl := Option.some.inj ho_
                  exact gw rfl (g_move _ (.slice (some ⟨b, o, none⟩) (n) (cap)) rfl ⟨rfl, hM⟩)
                · obtain rfl := Option.some.inj ho_
                  exact gw rfl (g_move _ (.int .i64 (((j : Nat) : Int))) rfl ⟨rfl, hM⟩)
                · obtain rfl := Option.some.inj ho_
                  exact gw rfl (g_ix _ _ 26 39 2 Tryd.underlying26 szof39 b o n cap j (o + j * 2) _ rfl rfl rfl hjn rfl ⟨rfl, hM⟩)
                · obtain rfl := Option.some.inj ho_
                  exact gw rfl (g_fa 39 _ b (o + j * 2) (o + j * 2 + 1) 1 rfl (faCa1 _ _ _) ⟨rfl, hM⟩)
                · obtain rfl := Option.some.inj ho_
                  rcases hM with ⟨rfl, hM⟩ | ⟨rfl, hM⟩ | ⟨rfl, hM⟩ | ⟨rfl, hM⟩ | ⟨rfl, hM⟩
                  · exact gw rfl (g_ld1 9 _ b (o + j * 2 + 1) _ rfl (ld9 _ _ _ _ (cell_on hM c1)) ⟨rfl, .inl ⟨rfl, hM⟩⟩)
                  · exact absurd (hb_ 0 (by decide)) (by decide)
                  · exact gw rfl (g_ld1 9 _ b (o + j * 2 + 1) _ rfl (ld9 _ _ _ _ (cell_on hM c1)) ⟨rfl, .inr (.inr (.inl ⟨rfl, hM⟩))⟩)
                  · exact absurd (hb_ 0 (by decide)) (by decide)
                  · exact absurd (hb_ 0 (by decide)) (by decide)
                · exact absurd (by decide) hi_
                · obtain rfl := Option.some.inj ho_
                  exact gw rfl (g_move _ (.tuple #[.agg (pkc (((i : Nat) : Int)) (y) (G) (T) (K)).toArray, .int .i64 (0)]) rfl ⟨rfl, hM⟩)
                · obtain rfl := Option.some.inj ho_
                  exact gw rfl (g_extract _ #[.agg (pkc (((i : Nat) : Int)) (y) (G) (T) (K)).toArray, .int .i64 (0)] 0 (.agg (pkc (((i : Nat) : Int)) (y) (G) (T) (K)).toArray) rfl rfl ⟨rfl, hM⟩)
                · obtain rfl := Option.some.inj ho_
                  exact gw rfl (g_extract _ #[.agg (pkc (((i : Nat) : Int)) (y) (G) (T) (K)).toArray, .int .i64 (0)] 1 (.int .i64 (0)) rfl rfl ⟨rfl, hM⟩)
                · exact absurd (by decide) hi_
                · exact absurd (by decide) hi_
                · obtain rfl := Option.some.inj ho_
                  exact gw rfl (g_assign _ (.int .i64 (0)) rfl ⟨rfl, hM⟩)
                · simp at ho_
              · simp only [fullL, Act.put, st_a, st_s, st_0]
                rintro F_ p45 w44 hF_ hM
                subst hF_
                rcases hM with ⟨h_, hM⟩ | ⟨h_, hM⟩ | ⟨h_, hM⟩ | ⟨h_, hM⟩ | ⟨h_, hM⟩
                · exact absurd h_ (by decide)
                · exact absurd h_ (by decide)
                · exact absurd h_ (by decide)
                · exact absurd h_ (by decide)
                clear h_
                replace hM : Ms w w44 [blk (p45) (pkc (((i : Nat) : Int)) (y) (G) (T) (K)) 44, sn p12 (s) (P) (((i : Nat) : Int)), blk (w2.heap.size) (plc (P)) 25, blk (w.heap.size) (kc (s)) 23] := hM
                refine hK43 _ _ ?_
                (try clear hK43 K43)
                refine wp_seq_k (fun K46 hK46 => ?_)
                refine wp_seq_k (fun K47 hK47 => ?_)
                refine wl_region ?_
                refine wl_give rfl (g_move _ (.int .i64 (0)) rfl ?_)
                (try simp only [Act.put, st_a, st_0, st_s])
                refine wl_give rfl (g_ine 29 _ _ .i64 (0) (0) false rfl rfl (by decide) ?_)
                (try simp only [Act.put, st_a, st_0, st_s])
                refine wl_nil ?_
                refine hK47 _ _ ?_
                (try clear hK47 K47)
                refine wp_cond_false rfl ?_
                refine wp_skip ?_
                refine hK46 _ _ ?_
                (try clear hK46 K46)
                refine wp_seq_k (fun K48 hK48 => ?_)
                refine wl_region ?_
                refine wl_give rfl (g_load_all 23 _ (w.heap.size) (kc (s)) 23 _ rfl (hM.get 3 rfl) Tryd.underlying23 rfl (szK _) ?_)
                (try simp only [Act.put, st_a, st_0, st_s])
                refine wl_give rfl (g_fa 25 _ (w2.heap.size) (0) (3) 3 rfl (faPl3 _ _ _) ?_)
                (try simp only [Act.put, st_a, st_0, st_s])
                refine wl_give rfl (g_ld1 3 _ (w2.heap.size) (3) _ rfl (ld3 _ _ _ _ ((hM.get 2 rfl).cell (3) _ (rfl))) ?_)
                (try simp only [Act.put, st_a, st_0, st_s])
                refine wl_give rfl (g_fa 44 _ (p45) (0) (0) 0 rfl (faPk0 _ _ _) ?_)
                (try simp only [Act.put, st_a, st_0, st_s])
                refine wl_give rfl (g_ld1 3 _ (p45) (0) _ rfl (ld3 _ _ _ _ ((hM.get 0 rfl).cell (0) _ (rfl))) ?_)
                (try simp only [Act.put, st_a, st_0, st_s])
                refine wl_give rfl (g_call 18 _ _ [.agg (kc (s)).toArray, .int .i64 ((P).ct), .int .i64 (((i : Nat) : Int))] (kf18 _ _) rfl ((rckey_any (s) (P.ct) (((i : Nat) : Int)) w44 (Ka) (0) hKa).mono ?_))
                rintro e w49 ⟨rfl, t_⟩
                refine ⟨_, rfl, ?_⟩
                replace hM := hM.call t_
                clear t_
                (try simp only [Act.put, st_a, st_0, st_s])
                refine wl_give rfl (g_move _ (.tuple #[.agg (kc (Ka)).toArray, .int .i64 (0)]) rfl ?_)
                (try simp only [Act.put, st_a, st_0, st_s])
                refine wl_give rfl (g_extract _ #[.agg (kc (Ka)).toArray, .int .i64 (0)] 0 (.agg (kc (Ka)).toArray) rfl rfl ?_)
                (try simp only [Act.put, st_a, st_0, st_s])
                refine wl_give rfl (g_extract _ #[.agg (kc (Ka)).toArray, .int .i64 (0)] 1 (.int .i64 (0)) rfl rfl ?_)
                (try simp only [Act.put, st_a, st_0, st_s])
                refine wl_give rfl (g_alloc 23 (kc (zk)) zeroK ?_)
                intro w50 t_ b_
                replace hM := hM.new t_ b_
                clear t_ b_
                (try simp only [Act.put, st_a, st_0, st_s])
                refine wl_give rfl (g_store_all 23 _ _ (w49.heap.size) (kc (Ka)) _ 23 rfl rfl (hM.get 0 rfl) (szK _) (kk_len _ _) (one_kc _) ?_)
                intro w51 t_ b_
                replace hM : Ms w w51 [blk (w49.heap.size) (kc (Ka)) 23, blk (p45) (pkc (((i : Nat) : Int)) (y) (G) (T) (K)) 44, sn p12 (s) (P) (((i : Nat) : Int)), blk (w2.heap.size) (plc (P)) 25, blk (w.heap.size) (kc (s)) 23] := hM.put 0 rfl t_ b_
                clear t_ b_
                (try simp only [Act.put, st_a, st_0, st_s])
                refine wl_give rfl (g_assign _ (.int .i64 (0)) rfl ?_)
                (try simp only [Act.put, st_a, st_0, st_s])
                refine wl_nil ?_
                refine hK48 _ _ ?_
                (try clear hK48 K48)
                refine wp_seq_k (fun K52 hK52 => ?_)
                refine wp_seq_k (fun K53 hK53 => ?_)
                (try simp only [List.append_eq, List.cons_append, List.nil_append])
                refine wp_region_fixed (by kernel_rfl) (by kernel_rfl) [.agg (kc (Ka)).toArray, .agg (pkc (((i : Nat) : Int)) (y) (G) (T) (K)).toArray, .bool true, .bool false, .bool false, .pointer (some ⟨p45, 1, none⟩), .string (y), .slice (some ⟨b, o, none⟩) (n) (cap), .int .i64 (((j : Nat) : Int)), .pointer (some ⟨b, o + j * 2, none⟩), .pointer (some ⟨b, o + j * 2 + 1, none⟩), .string (y), .bool false, .bool false, .bool false, .pointer (some ⟨p45, 3, none⟩), .int .i64 (T), .bool true, .bool true, .pointer (some ⟨p45, 3, none⟩), .int .i64 (T), .pointer (some ⟨p45, 0, none⟩), .int .i64 (((i : Nat) : Int)), .pointer (some ⟨w2.heap.size, 2, none⟩), .int .i64 ((P).dl), .int .i64 (T), .bool false, .bool false, .bool false, .bool false, .pointer (some ⟨p45, 3, none⟩), .int .i64 (T), .bool false, .bool false, undef, undef, undef, undef, undef, undef, undef, undef, undef, undef, undef, .bool false, .bool false] (by rfl) (fun wx => Ms w wx [blk (w49.heap.size) (kc (Ka)) 23, blk (p45) (pkc (((i : Nat) : Int)) (y) (G) (T) (K)) 44, sn p12 (s) (P) (((i : Nat) : Int)), blk (w2.heap.size) (plc (P)) 25, blk (w.heap.size) (kc (s)) 23]) hM.drew ?_ ?_
                · simp only [fullL, Act.put, st_a, st_s, st_0]
                  refine ⟨?_, ?_, ?_, ?_, ?_, ?_, ?_, ?_, ?_, ?_, ?_, ?_, ?_, ?_, ?_, ?_, ?_, ?_, ?_, ?_, ?_, ?_, ?_, ?_, ?_, ?_, ?_, ?_, ?_, ?_, ?_, ?_, ?_, ?_, ?_, ?_, ?_, ?_, ?_, ?_, ?_, ?_, ?_, ?_, ?_, ?_, ?_, trivial⟩
                  · exact fun wx hM => gw rfl (g_load_all 23 _ (w49.heap.size) (kc (Ka)) 23 _ rfl (hM.get 0 rfl) Tryd.underlying23 rfl (szK _) ⟨rfl, hM⟩)
                  · exact fun wx hM => gw rfl (g_load_all 44 _ (p45) (pkc (((i : Nat) : Int)) (y) (G) (T) (K)) 44 _ rfl (hM.get 1 rfl) Tryd.underlying44 rfl (szPk _ _ _ _ _) ⟨rfl, hM⟩)
                  · exact fun wx hM => gw rfl (g_call 22 _ _ [.agg (kc (Ka)).toArray, .agg (pkc (((i : Nat) : Int)) (y) (G) (T) (K)).toArray] (kf22 _ _) rfl ((sright_any Ka ((i : Nat) : Int) y G T K wx (hM.tabs hT) (by omega) hGs true hR).mono (fun _ _ ⟨h1_, h2_⟩ => ⟨_, h1_, rfl, hM.call h2_⟩)))
                  · exact fun wx hM => gw rfl (g_unot 4 _ true rfl ⟨rfl, hM⟩)
                  · exact fun wx hM => gw rfl (g_move _ (.bool false) rfl ⟨rfl, hM⟩)
                  · exact fun wx hM => gw rfl (g_fa 44 _ (p45) (0) (1) 1 rfl (faPk1 _ _ _) ⟨rfl, hM⟩)
                  · exact fun wx hM => gw rfl (g_ld1 9 _ (p45) (1) _ rfl (ld9 _ _ _ _ ((hM.get 1 rfl).cell (1) _ (rfl))) ⟨rfl, hM⟩)
                  · exact fun wx hM => gw rfl (g_move _ (.slice (some ⟨b, o, none⟩) (n) (cap)) rfl ⟨rfl, hM⟩)
                  · exact fun wx hM => gw rfl (g_move _ (.int .i64 (((j : Nat) : Int))) rfl ⟨rfl, hM⟩)
                  · exact fun wx hM => gw rfl (g_ix _ _ 26 39 2 Tryd.underlying26 szof39 b o n cap j (o + j * 2) _ rfl rfl rfl hjn rfl ⟨rfl, hM⟩)
                  · exact fun wx hM => gw rfl (g_fa 39 _ b (o + j * 2) (o + j * 2 + 1) 1 rfl (faCa1 _ _ _) ⟨rfl, hM⟩)
                  · exact fun wx hM => gw rfl (g_ld1 9 _ b (o + j * 2 + 1) _ rfl (ld9 _ _ _ _ (cell_on hM c1)) ⟨rfl, hM⟩)
                  · exact fun wx hM => gw rfl (g_sneq 9 _ _ (y) rfl rfl ⟨rfl, hM⟩)
                  · exact fun wx hM => gw rfl (g_pickf _ _ _ (.bool false) rfl rfl ⟨rfl, hM⟩)
                  · exact fun wx hM => gw rfl (g_move _ (.bool false) rfl ⟨rfl, hM⟩)
                  · exact fun wx hM => gw rfl (g_fa 44 _ (p45) (0) (3) 3 rfl (faPk3 _ _ _) ⟨rfl, hM⟩)
                  · exact fun wx hM => gw rfl (g_ld1 3 _ (p45) (3) _ rfl (ld3 _ _ _ _ ((hM.get 1 rfl).cell (3) _ (rfl))) ⟨rfl, hM⟩)
                  · exact fun wx hM => gw rfl (g_igtr 3 _ _ .i64 (T) (0) true rfl rfl (decide_eq_true hT0) ⟨rfl, hM⟩)
                  · exact fun wx hM => gw rfl (g_move _ (.bool true) rfl ⟨rfl, hM⟩)
                  · exact fun wx hM => gw rfl (g_fa 44 _ (p45) (0) (3) 3 rfl (faPk3 _ _ _) ⟨rfl, hM⟩)
                  · exact fun wx hM => gw rfl (g_ld1 3 _ (p45) (3) _ rfl (ld3 _ _ _ _ ((hM.get 1 rfl).cell (3) _ (rfl))) ⟨rfl, hM⟩)
                  · exact fun wx hM => gw rfl (g_fa 44 _ (p45) (0) (0) 0 rfl (faPk0 _ _ _) ⟨rfl, hM⟩)
                  · exact fun wx hM => gw rfl (g_ld1 3 _ (p45) (0) _ rfl (ld3 _ _ _ _ ((hM.get 1 rfl).cell (0) _ (rfl))) ⟨rfl, hM⟩)
                  · exact fun wx hM => gw rfl (g_fa 25 _ (w2.heap.size) (0) (2) 2 rfl (faPl2 _ _ _) ⟨rfl, hM⟩)
                  · exact fun wx hM => gw rfl (g_ld1 3 _ (w2.heap.size) (2) _ rfl (ld3 _ _ _ _ ((hM.get 3 rfl).cell (2) _ (rfl))) ⟨rfl, hM⟩)
                  · exact fun wx hM => gw rfl (g_isub 3 _ _ .i64 (((i : Nat) : Int)) (P.dl) (T) rfl rfl eTs.out ⟨rfl, hM⟩)
                  · exact fun wx hM => gw rfl (g_ine 3 _ _ .i64 (T) (T) false rfl rfl (decide_eq_false (fun h => h rfl)) ⟨rfl, hM⟩)
                  · exact fun wx hM => gw rfl (g_pickt _ _ _ (.bool false) rfl rfl ⟨rfl, hM⟩)
                  · exact fun wx hM => gw rfl (g_pickf _ _ _ (.bool false) rfl rfl ⟨rfl, hM⟩)
                  · exact fun wx hM => gw rfl (g_move _ (.bool false) rfl ⟨rfl, hM⟩)
                  · exact fun wx hM => gw rfl (g_fa 44 _ (p45) (0) (3) 3 rfl (faPk3 _ _ _) ⟨rfl, hM⟩)
                  · exact fun wx hM => gw rfl (g_ld1 3 _ (p45) (3) _ rfl (ld3 _ _ _ _ ((hM.get 1 rfl).cell (3) _ (rfl))) ⟨rfl, hM⟩)
                  · exact fun wx hM => gw rfl (g_ieq 3 _ _ .i64 (T) (0) false rfl rfl (decide_eq_false hT1) ⟨rfl, hM⟩)
                  · exact fun wx hM => gw rfl (g_move _ (.bool false) rfl ⟨rfl, hM⟩)
                  · exact fun wx hM => gn rfl ⟨rfl, hM⟩
                  · exact fun wx hM => gn rfl ⟨rfl, hM⟩
                  · exact fun wx hM => gn rfl ⟨rfl, hM⟩
                  · exact fun wx hM => gn rfl ⟨rfl, hM⟩
                  · exact fun wx hM => gn rfl ⟨rfl, hM⟩
                  · exact fun wx hM => gn rfl ⟨rfl, hM⟩
                  · exact fun wx hM => gn rfl ⟨rfl, hM⟩
                  · exact fun wx hM => gn rfl ⟨rfl, hM⟩
                  · exact fun wx hM => gn rfl ⟨rfl, hM⟩
                  · exact fun wx hM => gn rfl ⟨rfl, hM⟩
                  · exact fun wx hM => gn rfl ⟨rfl, hM⟩
                  · exact fun wx hM => gw rfl (g_pickf _ _ _ (.bool false) rfl rfl ⟨rfl, hM⟩)
                  · exact fun wx hM => gw rfl (g_pickf _ _ _ (.bool false) rfl rfl ⟨rfl, hM⟩)
                · simp only [fullL, Act.put, st_a, st_s, st_0]
                  intro w54 hM
                  refine hK53 _ _ ?_
                  (try clear hK53 K53)
                  refine wp_cond_false rfl ?_
                  refine wp_skip ?_
                  refine hK52 _ _ ?_
                  (try clear hK52 K52)
                  refine wp_seq_k (fun K55 hK55 => ?_)
                  refine wl_region ?_
                  refine wl_give rfl (g_fa 44 _ (p45) (0) (3) 3 rfl (faPk3 _ _ _) ?_)
                  (try simp only [Act.put, st_a, st_0, st_s])
                  refine wl_give rfl (g_ld1 3 _ (p45) (3) _ rfl (ld3 _ _ _ _ ((hM.get 1 rfl).cell (3) _ (rfl))) ?_)
                  (try simp only [Act.put, st_a, st_0, st_s])
                  refine wl_give rfl (g_igtr 3 _ _ .i64 (T) (0) true rfl rfl (decide_eq_true hT0) ?_)
                  (try simp only [Act.put, st_a, st_0, st_s])
                  refine wl_nil ?_
                  refine hK55 _ _ ?_
                  (try clear hK55 K55)
                  refine wp_cond_true rfl ?_
                  refine wp_seq_k (fun K56 hK56 => ?_)
                  refine wl_region ?_
                  refine wl_give rfl (g_load_all 23 _ (w.heap.size) (kc (s)) 23 _ rfl (hM.get 4 rfl) Tryd.underlying23 rfl (szK _) ?_)
                  (try simp only [Act.put, st_a, st_0, st_s])
                  refine wl_give rfl (g_fa 25 _ (w2.heap.size) (0) (3) 3 rfl (faPl3 _ _ _) ?_)
                  (try simp only [Act.put, st_a, st_0, st_s])
                  refine wl_give rfl (g_ld1 3 _ (w2.heap.size) (3) _ rfl (ld3 _ _ _ _ ((hM.get 3 rfl).cell (3) _ (rfl))) ?_)
                  (try simp only [Act.put, st_a, st_0, st_s])
                  refine wl_give rfl (g_fa 44 _ (p45) (0) (3) 3 rfl (faPk3 _ _ _) ?_)
                  (try simp only [Act.put, st_a, st_0, st_s])
                  refine wl_give rfl (g_ld1 3 _ (p45) (3) _ rfl (ld3 _ _ _ _ ((hM.get 1 rfl).cell (3) _ (rfl))) ?_)
                  (try simp only [Act.put, st_a, st_0, st_s])
                  refine wl_give rfl (g_call 18 _ _ [.agg (kc (s)).toArray, .int .i64 ((P).ct), .int .i64 (T)] (kf18 _ _) rfl ((rckey_any (s) (P.ct) (T) w54 (K) (0) hKt).mono ?_))
                  rintro e w57 ⟨rfl, t_⟩
                  refine ⟨_, rfl, ?_⟩
                  replace hM := hM.call t_
                  clear t_
                  (try simp only [Act.put, st_a, st_0, st_s])
                  refine wl_give rfl (g_move _ (.tuple #[.agg (kc (K)).toArray, .int .i64 (0)]) rfl ?_)
                  (try simp only [Act.put, st_a, st_0, st_s])
                  refine wl_give rfl (g_extract _ #[.agg (kc (K)).toArray, .int .i64 (0)] 0 (.agg (kc (K)).toArray) rfl rfl ?_)
                  (try simp only [Act.put, st_a, st_0, st_s])
                  refine wl_give rfl (g_extract _ #[.agg (kc (K)).toArray, .int .i64 (0)] 1 (.int .i64 (0)) rfl rfl ?_)
                  (try simp only [Act.put, st_a, st_0, st_s])
                  refine wl_give rfl (g_alloc 23 (kc (zk)) zeroK ?_)
                  intro w58 t_ b_
                  replace hM := hM.new t_ b_
                  clear t_ b_
                  (try simp only [Act.put, st_a, st_0, st_s])
                  refine wl_give rfl (g_store_all 23 _ _ (w57.heap.size) (kc (K)) _ 23 rfl rfl (hM.get 0 rfl) (szK _) (kk_len _ _) (one_kc _) ?_)
                  intro w59 t_ b_
                  replace hM : Ms w w59 [blk (w57.heap.size) (kc (K)) 23, blk (w49.heap.size) (kc (Ka)) 23, blk (p45) (pkc (((i : Nat) : Int)) (y) (G) (T) (K)) 44, sn p12 (s) (P) (((i : Nat) : Int)), blk (w2.heap.size) (plc (P)) 25, blk (w.heap.size) (kc (s)) 23] := hM.put 0 rfl t_ b_
                  clear t_ b_
                  (try simp only [Act.put, st_a, st_0, st_s])
                  refine wl_give rfl (g_assign _ (.int .i64 (0)) rfl ?_)
                  (try simp only [Act.put, st_a, st_0, st_s])
                  refine wl_nil ?_
                  refine hK56 _ _ ?_
                  (try clear hK56 K56)
                  refine wp_seq_k (fun K60 hK60 => ?_)
                  refine wl_region ?_
                  refine wl_give rfl (g_fa 44 _ (p45) (0) (4) 4 rfl (faPk4 _ _ _) ?_)
                  (try simp only [Act.put, st_a, st_0, st_s])
                  refine wl_give rfl (g_load 23 _ (p45) (4) 32 _ 44 _ rfl (hM.get 2 rfl) Tryd.underlying23 rfl size23 (by rw [pkc_length]; decide) (kc (K)) (pk_key (K) (((i : Nat) : Int)) (y) (G) (T)) ?_)
                  (try simp only [Act.put, st_a, st_0, st_s])
                  refine wl_give rfl (g_load_all 23 _ (w57.heap.size) (kc (K)) 23 _ rfl (hM.get 0 rfl) Tryd.underlying23 rfl (szK _) ?_)
                  (try simp only [Act.put, st_a, st_0, st_s])
                  refine wl_give rfl (g_nK _ _ (K) (K) true false rfl rfl (decide_eq_true rfl) rfl ?_)
                  (try simp only [Act.put, st_a, st_0, st_s])
                  refine wl_nil ?_
                  refine hK60 _ _ ?_
                  (try clear hK60 K60)
                  refine wp_cond_false rfl ?_
                  refine wp_skip ?_
                  refine hK39 _ _ ?_
                  (try clear hK39 K39)
                  refine wl_region ?_
                  refine wl_give rfl (g_move _ (.int .i64 (((j : Nat) : Int))) rfl ?_)
                  (try simp only [Act.put, st_a, st_0, st_s])
                  refine wl_give rfl (g_ia 3 _ _ .i64 (((j : Nat) : Int)) (1) (((j + 1 : Nat) : Int)) rfl rfl ej.out ?_)
                  (try simp only [Act.put, st_a, st_0, st_s])
                  refine wl_give rfl (g_assign _ (.int .i64 (((j + 1 : Nat) : Int))) rfl ?_)
                  (try simp only [Act.put, st_a, st_0, st_s])
                  refine wl_nil ?_
                  (try simp only [Exit.then, Exit.inBlock, ↓reduceIte, Nat.reduceEqDiff])
                  go_roundw
                  case rel => exact ⟨j + 1, ((i : Nat) : Int), by omega, rfl, ((((((hM.erase 0).erase 0).erase 0).up 2 rfl).up 2 rfl).up 2 rfl)⟩
                  case measure => simp [intOf]; omega
            · skip
              have hz : pte P i = 0 := by omega
              rw [if_neg hT0, hz] at hS0
              have hle : ¬ P.dl < ((i : Nat) : Int) := by omega
              clear eKa eG
              refine wp_seq_k (fun K61 hK61 => ?_)
              refine wp_seq_k (fun K62 hK62 => ?_)
              refine wl_region ?_
              refine wl_give rfl (g_move _ (.int .i64 (((j : Nat) : Int))) rfl ?_)
              (try simp only [Act.put, st_a, st_0, st_s])
              refine wl_give rfl (g_move _ (.slice (some ⟨b, o, none⟩) (n) (cap)) rfl ?_)
              (try simp only [Act.put, st_a, st_0, st_s])
              refine wl_give rfl (g_len _ 26 39 ((some ⟨b, o, none⟩)) (n) (cap) (((n : Nat) : Int)) Tryd.underlying26 rfl (rfl) ?_)
              (try simp only [Act.put, st_a, st_0, st_s])
              refine wl_give rfl (g_ilss 3 _ _ .i64 (((j : Nat) : Int)) (((n : Nat) : Int)) true rfl rfl (decide_eq_true (by omega)) ?_)
              (try simp only [Act.put, st_a, st_0, st_s])
              refine wl_give rfl (g_move _ (.bool true) rfl ?_)
              (try simp only [Act.put, st_a, st_0, st_s])
              refine wl_give rfl (g_move _ (.int .i64 (((j : Nat) : Int))) rfl ?_)
              (try simp only [Act.put, st_a, st_0, st_s])
              refine wl_give rfl (g_ilss 3 _ _ .i64 (((j : Nat) : Int)) (30) true rfl rfl (decide_eq_true h30) ?_)
              (try simp only [Act.put, st_a, st_0, st_s])
              refine wl_give rfl (g_pickt _ _ _ (.bool true) rfl rfl ?_)
              (try simp only [Act.put, st_a, st_0, st_s])
              refine wl_nil ?_
              refine hK62 _ _ ?_
              (try clear hK62 K62)
              refine wp_cond_true rfl ?_
              refine wp_skip ?_
              refine hK61 _ _ ?_
              (try clear hK61 K61)
              refine wp_seq_k (fun K63 hK63 => ?_)
              refine wp_block ?_
              refine wp_seq_k (fun K64 hK64 => ?_)
              refine wp_seq_k (fun K65 hK65 => ?_)
              refine wl_region ?_
              refine wl_give rfl (g_move _ (.slice (some ⟨b, o, none⟩) (n) (cap)) rfl ?_)
              (try simp only [Act.put, st_a, st_0, st_s])
              refine wl_give rfl (g_move _ (.int .i64 (((j : Nat) : Int))) rfl ?_)
              (try simp only [Act.put, st_a, st_0, st_s])
              refine wl_give rfl (g_ix _ _ 26 39 2 Tryd.underlying26 szof39 b o n cap j (o + j * 2) _ rfl rfl rfl hjn rfl ?_)
              (try simp only [Act.put, st_a, st_0, st_s])
              refine wl_give rfl (g_ldC _ b (o + j * 2) (t) (y) rfl (cell_on hM c0) (cell_on hM c1) ?_)
              (try simp only [Act.put, st_a, st_0, st_s])
              refine wl_give rfl (g_call 12 _ _ [.agg (cac (t) (y)).toArray] (kf12 _ _) rfl ((large_no t y wr hlg).mono ?_))
              rintro e w66 ⟨rfl, t_⟩
              refine ⟨_, rfl, ?_⟩
              replace hM := hM.call t_
              clear t_
              (try simp only [Act.put, st_a, st_0, st_s])
              refine wl_nil ?_
              refine hK65 _ _ ?_
              (try clear hK65 K65)
              refine wp_cond_false rfl ?_
              refine wp_skip ?_
              refine hK64 _ _ ?_
              (try clear hK64 K64)
              refine wp_seq_k (fun K67 hK67 => ?_)
              refine wp_region_poset (by kernel_rfl) (by kernel_rfl) [11, 15, 16] [[], [], [], [], [], [], [], [], [], [], [], [], [0], [0], [0], [], [0, 1], [0, 1, 2]] [[0, 2], [2], [2], [2], [2], [0, 2], [2], [2], [2], [2], [0, 2], [2], [2], [2], [], [2], [], []] (by kernel_rfl) (Pm := Nat) (fun π => [.pointer (some ⟨p12, 0, none⟩), .slice (some ⟨b, o, none⟩) (n) (cap), .int .i64 (((j : Nat) : Int)), .pointer (some ⟨b, o + j * 2, none⟩), .pointer (some ⟨b, o + j * 2, none⟩), .int .i64 (t), .slice (some ⟨b, o, none⟩) (n) (cap), .int .i64 (((j : Nat) : Int)), .pointer (some ⟨b, o + j * 2, none⟩), .pointer (some ⟨b, o + j * 2 + 1, none⟩), .string (y), .tuple #[.agg (pkc (((i : Nat) : Int)) (y) (G) (0) (zk)).toArray, .int .i64 (0)], .tuple #[.agg (pkc (((i : Nat) : Int)) (y) (G) (0) (zk)).toArray, .int .i64 (0)], .agg (pkc (((i : Nat) : Int)) (y) (G) (0) (zk)).toArray, .int .i64 (0), .pointer (some ⟨π, 0, none⟩), undef, .int .i64 (0)]) (fun _ => by rfl) (fun F_ π wx => (F_ = [false, false, false] ∧ Ms w wx [sn p12 (s) (P) (l), blk (w2.heap.size) (plc (P)) 25, blk (w.heap.size) (kc (s)) 23]) ∨ (F_ = [true, false, false] ∧ Ms w wx [sn p12 (s) (P) (((i : Nat) : Int)), blk (w2.heap.size) (plc (P)) 25, blk (w.heap.size) (kc (s)) 23]) ∨ (F_ = [false, true, false] ∧ Ms w wx [blk (π) (pkc (0) (⟨#[]⟩) (⟨#[]⟩) (0) (zk)) 44, sn p12 (s) (P) (l), blk (w2.heap.size) (plc (P)) 25, blk (w.heap.size) (kc (s)) 23]) ∨ (F_ = [true, true, false] ∧ Ms w wx [blk (π) (pkc (0) (⟨#[]⟩) (⟨#[]⟩) (0) (zk)) 44, sn p12 (s) (P) (((i : Nat) : Int)), blk (w2.heap.size) (plc (P)) 25, blk (w.heap.size) (kc (s)) 23]) ∨ (F_ = [true, true, true] ∧ Ms w wx [blk (π) (pkc (((i : Nat) : Int)) (y) (G) (0) (zk)) 44, sn p12 (s) (P) (((i : Nat) : Int)), blk (w2.heap.size) (plc (P)) 25, blk (w.heap.size) (kc (s)) 23])) (0) (.inl ⟨rfl, hM.drew⟩) ?_ ?_ ?_
              · intro j_ k_ o_ F_ hj_ ho_ hf_ hn_ π wx hM
                rcases j_ with _ | _ | _ | j_
                · obtain rfl := Option.some.inj hj_
                  obtain rfl := Option.some.inj ho_
                  simp only [fullL, Act.put, st_a, st_s, st_0]
                  rcases hM with ⟨rfl, hM⟩ | ⟨rfl, hM⟩ | ⟨rfl, hM⟩ | ⟨rfl, hM⟩ | ⟨rfl, hM⟩
                  · exact gw rfl (g_call 15 _ _ [.pointer (some ⟨p12, 0, none⟩), .int .i64 (t), .string (y)] (kf15 _ _) rfl ((send_any hM hT (t) ht (y) (((i : Nat) : Int)) (y) (G) (0) (zk) (0) (((i : Nat) : Int)) ⟨hS0⟩).mono (fun e w' ⟨h1_, h2_⟩ => ⟨_, h1_, ⟨(π), rfl, fun i h1 h2 => by rcases i with _ | _ | _ | _ | _ | _ | _ | _ | _ | _ | _ | _ | _ | _ | _ | _ | _ | _ | i <;> first | rfl | trivial | exact absurd rfl h2 | exact absurd (by decide) h1, .inr (.inl ⟨rfl, (((h2_.up 2 rfl).up 2 rfl).up 2 rfl)⟩)⟩⟩)))
                  · exact absurd hf_ (by decide)
                  · exact gw rfl (g_call 15 _ _ [.pointer (some ⟨p12, 0, none⟩), .int .i64 (t), .string (y)] (kf15 _ _) rfl ((send_any (show Ms w wx [sn p12 (s) (P) (l), blk (π) (pkc (0) (⟨#[]⟩) (⟨#[]⟩) (0) (zk)) 44, blk (w2.heap.size) (plc (P)) 25, blk (w.heap.size) (kc (s)) 23] from (hM.up 1 rfl)) hT (t) ht (y) (((i : Nat) : Int)) (y) (G) (0) (zk) (0) (((i : Nat) : Int)) ⟨hS0⟩).mono (fun e w' ⟨h1_, h2_⟩ => ⟨_, h1_, ⟨(π), rfl, fun i h1 h2 => by rcases i with _ | _ | _ | _ | _ | _ | _ | _ | _ | _ | _ | _ | _ | _ | _ | _ | _ | _ | i <;> first | rfl | trivial | exact absurd rfl h2 | exact absurd (by decide) h1, .inr (.inr (.inr (.inl ⟨rfl, ((((h2_.up 3 rfl).up 3 rfl).up 2 rfl).up 3 rfl)⟩)))⟩⟩)))
                  · exact absurd hf_ (by decide)
                  · exact absurd hf_ (by decide)
                · obtain rfl := Option.some.inj hj_
                  obtain rfl := Option.some.inj ho_
                  simp only [fullL, Act.put, st_a, st_s, st_0]
                  rcases hM with ⟨rfl, hM⟩ | ⟨rfl, hM⟩ | ⟨rfl, hM⟩ | ⟨rfl, hM⟩ | ⟨rfl, hM⟩
                  · exact gw rfl (g_alloc 44 (pkc (0) (⟨#[]⟩) (⟨#[]⟩) (0) (zk)) zeroPk (fun w' t_ b_ => ⟨(wx.heap.size), rfl, fun i h1 h2 => by rcases i with _ | _ | _ | _ | _ | _ | _ | _ | _ | _ | _ | _ | _ | _ | _ | _ | _ | _ | i <;> first | rfl | trivial | exact absurd rfl h2 | exact absurd (by decide) h1, .inr (.inr (.inl ⟨rfl, (((((hM.new t_ b_).up 3 rfl).up 3 rfl).up 3 rfl).up 3 rfl)⟩))⟩))
                  · exact gw rfl (g_alloc 44 (pkc (0) (⟨#[]⟩) (⟨#[]⟩) (0) (zk)) zeroPk (fun w' t_ b_ => ⟨(wx.heap.size), rfl, fun i h1 h2 => by rcases i with _ | _ | _ | _ | _ | _ | _ | _ | _ | _ | _ | _ | _ | _ | _ | _ | _ | _ | i <;> first | rfl | trivial | exact absurd rfl h2 | exact absurd (by decide) h1, .inr (.inr (.inr (.inl ⟨rfl, (((((hM.new t_ b_).up 3 rfl).up 3 rfl).up 3 rfl).up 3 rfl)⟩)))⟩))
                  · exact absurd hf_ (by decide)
                  · exact absurd hf_ (by decide)
                  · exact absurd hf_ (by decide)
                · obtain rfl := Option.some.inj hj_
                  obtain rfl := Option.some.inj ho_
                  simp only [fullL, Act.put, st_a, st_s, st_0]
                  rcases hM with ⟨rfl, hM⟩ | ⟨rfl, hM⟩ | ⟨rfl, hM⟩ | ⟨rfl, hM⟩ | ⟨rfl, hM⟩
                  · exact absurd (hn_ 0 (by decide)) (by decide)
                  · exact absurd (hn_ 1 (by decide)) (by decide)
                  · exact absurd (hn_ 0 (by decide)) (by decide)
                  · exact gw rfl (g_store_all 44 _ _ (π) (pkc (((i : Nat) : Int)) (y) (G) (0) (zk)) _ 44 rfl rfl (hM.get 0 rfl) (szPk _ _ _ _ _) (kk2_len _ _ _ _ _ _ _ _ _ _) (one_pkc _ _ _ _ _) (fun w' t_ b_ => ⟨(π), rfl, fun i h1 h2 => by rcases i with _ | _ | _ | _ | _ | _ | _ | _ | _ | _ | _ | _ | _ | _ | _ | _ | _ | _ | i <;> first | rfl | trivial | exact absurd rfl h2 | exact absurd (by decide) h1, .inr (.inr (.inr (.inr (⟨rfl, (((((hM.put 0 rfl t_ b_).up 3 rfl).up 3 rfl).up 3 rfl).up 3 rfl)⟩))))⟩))
                  · exact absurd hf_ (by decide)
                · simp at hj_
              · intro i_ o_ F_ ho_ hi_ hd_ hb_ π wx hM
                simp only [fullL, Act.put, st_a, st_s, st_0]
                rcases i_ with _ | _ | _ | _ | _ | _ | _ | _ | _ | _ | _ | _ | _ | _ | _ | _ | _ | _ | i_
                · obtain rfl := Option.some.inj ho_
                  exact gw rfl (g_move _ (.pointer (some ⟨p12, 0, none⟩)) rfl ⟨rfl, hM⟩)
                · obtain rfl := Option.some.inj ho_
                  exact gw rfl (g_move _ (.slice (some ⟨b, o, none⟩) (n) (cap)) rfl ⟨rfl, hM⟩)
                · obtain rfl := Option.some.inj ho_
                  exact gw rfl (g_move _ (.int .i64 (((j : Nat) : Int))) rfl ⟨rfl, hM⟩)
                · obtain rfl := Option.some.inj ho_
                  exact gw rfl (g_ix _ _ 26 39 2 Tryd.underlying26 szof39 b o n cap j (o + j * 2) _ rfl rfl rfl hjn rfl ⟨rfl, hM⟩)
                · obtain rfl := Option.some.inj ho_
                  exact gw rfl (g_fa 39 _ b (o + j * 2) (o + j * 2) 0 rfl (faCa0 _ _ _) ⟨rfl, hM⟩)
                · obtain rfl := Option.some.inj ho_
                  rcases hM with ⟨rfl, hM⟩ | ⟨rfl, hM⟩ | ⟨rfl, hM⟩ | ⟨rfl, hM⟩ | ⟨rfl, hM⟩
                  · exact gw rfl (g_ld1 2 _ b (o + j * 2) _ rfl (ld2 _ _ _ _ (cell_on hM c0)) ⟨rfl, .inl ⟨rfl, hM⟩⟩)
                  · exact absurd (hb_ 0 (by decide)) (by decide)
                  · exact gw rfl (g_ld1 2 _ b (o + j * 2) _ rfl (ld2 _ _ _ _ (cell_on hM c0)) ⟨rfl, .inr (.inr (.inl ⟨rfl, hM⟩))⟩)
                  · exact absurd (hb_ 0 (by decide)) (by decide)
                  · exact absurd (hb_ 0 (by decide)) (by decide)
                · obtain rfl := Option.some.inj ho_
                  exact gw rfl (g_move _ (.slice (some ⟨b, o, none⟩) (n) (cap)) rfl ⟨rfl, hM⟩)
                · obtain rfl := Option.some.inj ho_
                  exact gw rfl (g_move _ (.int .i64 (((j : Nat) : Int))) rfl ⟨rfl, hM⟩)
                · obtain rfl := Option.some.inj ho_
                  exact gw rfl (g_ix _ _ 26 39 2 Tryd.underlying26 szof39 b o n cap j (o + j * 2) _ rfl rfl rfl hjn rfl ⟨rfl, hM⟩)
                · obtain rfl := Option.some.inj ho_
                  exact gw rfl (g_fa 39 _ b (o + j * 2) (o + j * 2 + 1) 1 rfl (faCa1 _ _ _) ⟨rfl, hM⟩)
                · obtain rfl := Option.some.inj ho_
                  rcases hM with ⟨rfl, hM⟩ | ⟨rfl, hM⟩ | ⟨rfl, hM⟩ | ⟨rfl, hM⟩ | ⟨rfl, hM⟩
                  · exact gw rfl (g_ld1 9 _ b (o + j * 2 + 1) _ rfl (ld9 _ _ _ _ (cell_on hM c1)) ⟨rfl, .inl ⟨rfl, hM⟩⟩)
                  · exact absurd (hb_ 0 (by decide)) (by decide)
                  · exact gw rfl (g_ld1 9 _ b (o + j * 2 + 1) _ rfl (ld9 _ _ _ _ (cell_on hM c1)) ⟨rfl, .inr (.inr (.inl ⟨rfl, hM⟩))⟩)
                  · exact absurd (hb_ 0 (by decide)) (by decide)
                  · exact absurd (hb_ 0 (by decide)) (by decide)
                · exact absurd (by decide) hi_
                · obtain rfl := Option.some.inj ho_
                  exact gw rfl (g_move _ (.tuple #[.agg (pkc (((i : Nat) : Int)) (y) (G) (0) (zk)).toArray, .int .i64 (0)]) rfl ⟨rfl, hM⟩)
                · obtain rfl := Option.some.inj ho_
                  exact gw rfl (g_extract _ #[.agg (pkc (((i : Nat) : Int)) (y) (G) (0) (zk)).toArray, .int .i64 (0)] 0 (.agg (pkc (((i : Nat) : Int)) (y) (G) (0) (zk)).toArray) rfl rfl ⟨rfl, hM⟩)
                · obtain rfl := Option.some.inj ho_
                  exact gw rfl (g_extract _ #[.agg (pkc (((i : Nat) : Int)) (y) (G) (0) (zk)).toArray, .int .i64 (0)] 1 (.int .i64 (0)) rfl rfl ⟨rfl, hM⟩)
                · exact absurd (by decide) hi_
                · exact absurd (by decide) hi_
                · obtain rfl := Option.some.inj ho_
                  exact gw rfl (g_assign _ (.int .i64 (0)) rfl ⟨rfl, hM⟩)
                · simp at ho_
              · simp only [fullL, Act.put, st_a, st_s, st_0]
                rintro F_ p69 w68 hF_ hM
                subst hF_
                rcases hM with ⟨h_, hM⟩ | ⟨h_, hM⟩ | ⟨h_, hM⟩ | ⟨h_, hM⟩ | ⟨h_, hM⟩
                · exact absurd h_ (by decide)
                · exact absurd h_ (by decide)
                · exact absurd h_ (by decide)
                · exact absurd h_ (by decide)
                clear h_
                replace hM : Ms w w68 [blk (p69) (pkc (((i : Nat) : Int)) (y) (G) (0) (zk)) 44, sn p12 (s) (P) (((i : Nat) : Int)), blk (w2.heap.size) (plc (P)) 25, blk (w.heap.size) (kc (s)) 23] := hM
                refine hK67 _ _ ?_
                (try clear hK67 K67)
                refine wp_seq_k (fun K70 hK70 => ?_)
                refine wp_seq_k (fun K71 hK71 => ?_)
                refine wl_region ?_
                refine wl_give rfl (g_move _ (.int .i64 (0)) rfl ?_)
                (try simp only [Act.put, st_a, st_0, st_s])
                refine wl_give rfl (g_ine 29 _ _ .i64 (0) (0) false rfl rfl (by decide) ?_)
                (try simp only [Act.put, st_a, st_0, st_s])
                refine wl_nil ?_
                refine hK71 _ _ ?_
                (try clear hK71 K71)
                refine wp_cond_false rfl ?_
                refine wp_skip ?_
                refine hK70 _ _ ?_
                (try clear hK70 K70)
                refine wp_seq_k (fun K72 hK72 => ?_)
                refine wl_region ?_
                refine wl_give rfl (g_load_all 23 _ (w.heap.size) (kc (s)) 23 _ rfl (hM.get 3 rfl) Tryd.underlying23 rfl (szK _) ?_)
                (try simp only [Act.put, st_a, st_0, st_s])
                refine wl_give rfl (g_fa 25 _ (w2.heap.size) (0) (3) 3 rfl (faPl3 _ _ _) ?_)
                (try simp only [Act.put, st_a, st_0, st_s])
                refine wl_give rfl (g_ld1 3 _ (w2.heap.size) (3) _ rfl (ld3 _ _ _ _ ((hM.get 2 rfl).cell (3) _ (rfl))) ?_)
                (try simp only [Act.put, st_a, st_0, st_s])
                refine wl_give rfl (g_fa 44 _ (p69) (0) (0) 0 rfl (faPk0 _ _ _) ?_)
                (try simp only [Act.put, st_a, st_0, st_s])
                refine wl_give rfl (g_ld1 3 _ (p69) (0) _ rfl (ld3 _ _ _ _ ((hM.get 0 rfl).cell (0) _ (rfl))) ?_)
                (try simp only [Act.put, st_a, st_0, st_s])
                refine wl_give rfl (g_call 18 _ _ [.agg (kc (s)).toArray, .int .i64 ((P).ct), .int .i64 (((i : Nat) : Int))] (kf18 _ _) rfl ((rckey_any (s) (P.ct) (((i : Nat) : Int)) w68 (Ka) (0) hKa).mono ?_))
                rintro e w73 ⟨rfl, t_⟩
                refine ⟨_, rfl, ?_⟩
                replace hM := hM.call t_
                clear t_
                (try simp only [Act.put, st_a, st_0, st_s])
                refine wl_give rfl (g_move _ (.tuple #[.agg (kc (Ka)).toArray, .int .i64 (0)]) rfl ?_)
                (try simp only [Act.put, st_a, st_0, st_s])
                refine wl_give rfl (g_extract _ #[.agg (kc (Ka)).toArray, .int .i64 (0)] 0 (.agg (kc (Ka)).toArray) rfl rfl ?_)
                (try simp only [Act.put, st_a, st_0, st_s])
                refine wl_give rfl (g_extract _ #[.agg (kc (Ka)).toArray, .int .i64 (0)] 1 (.int .i64 (0)) rfl rfl ?_)
                (try simp only [Act.put, st_a, st_0, st_s])
                refine wl_give rfl (g_alloc 23 (kc (zk)) zeroK ?_)
                intro w74 t_ b_
                replace hM := hM.new t_ b_
                clear t_ b_
                (try simp only [Act.put, st_a, st_0, st_s])
                refine wl_give rfl (g_store_all 23 _ _ (w73.heap.size) (kc (Ka)) _ 23 rfl rfl (hM.get 0 rfl) (szK _) (kk_len _ _) (one_kc _) ?_)
                intro w75 t_ b_
                replace hM : Ms w w75 [blk (w73.heap.size) (kc (Ka)) 23, blk (p69) (pkc (((i : Nat) : Int)) (y) (G) (0) (zk)) 44, sn p12 (s) (P) (((i : Nat) : Int)), blk (w2.heap.size) (plc (P)) 25, blk (w.heap.size) (kc (s)) 23] := hM.put 0 rfl t_ b_
                clear t_ b_
                (try simp only [Act.put, st_a, st_0, st_s])
                refine wl_give rfl (g_assign _ (.int .i64 (0)) rfl ?_)
                (try simp only [Act.put, st_a, st_0, st_s])
                refine wl_nil ?_
                refine hK72 _ _ ?_
                (try clear hK72 K72)
                refine wp_seq_k (fun K76 hK76 => ?_)
                refine wp_seq_k (fun K77 hK77 => ?_)
                (try simp only [List.append_eq, List.cons_append, List.nil_append])
                refine wp_region_fixed (by kernel_rfl) (by kernel_rfl) [.agg (kc (Ka)).toArray, .agg (pkc (((i : Nat) : Int)) (y) (G) (0) (zk)).toArray, .bool true, .bool false, .bool false, .pointer (some ⟨p69, 1, none⟩), .string (y), .slice (some ⟨b, o, none⟩) (n) (cap), .int .i64 (((j : Nat) : Int)), .pointer (some ⟨b, o + j * 2, none⟩), .pointer (some ⟨b, o + j * 2 + 1, none⟩), .string (y), .bool false, .bool false, .bool false, .pointer (some ⟨p69, 3, none⟩), .int .i64 (0), .bool false, .bool false, undef, undef, undef, undef, undef, undef, undef, undef, .bool false, .bool false, .bool false, .pointer (some ⟨p69, 3, none⟩), .int .i64 (0), .bool true, .bool true, .pointer (some ⟨p69, 0, none⟩), .int .i64 (((i : Nat) : Int)), .pointer (some ⟨w2.heap.size, 2, none⟩), .int .i64 ((P).dl), .bool false, .bool false, .pointer (some ⟨p69, 4, none⟩), .agg (kc (zk)).toArray, .agg (kc (zk)).toArray, .bool false, .bool false, .bool false, .bool false] (by rfl) (fun wx => Ms w wx [blk (w73.heap.size) (kc (Ka)) 23, blk (p69) (pkc (((i : Nat) : Int)) (y) (G) (0) (zk)) 44, sn p12 (s) (P) (((i : Nat) : Int)), blk (w2.heap.size) (plc (P)) 25, blk (w.heap.size) (kc (s)) 23]) hM.drew ?_ ?_
                · simp only [fullL, Act.put, st_a, st_s, st_0]
                  refine ⟨?_, ?_, ?_, ?_, ?_, ?_, ?_, ?_, ?_, ?_, ?_, ?_, ?_, ?_, ?_, ?_, ?_, ?_, ?_, ?_, ?_, ?_, ?_, ?_, ?_, ?_, ?_, ?_, ?_, ?_, ?_, ?_, ?_, ?_, ?_, ?_, ?_, ?_, ?_, ?_, ?_, ?_, ?_, ?_, ?_, ?_, ?_, trivial⟩
                  · exact fun wx hM => gw rfl (g_load_all 23 _ (w73.heap.size) (kc (Ka)) 23 _ rfl (hM.get 0 rfl) Tryd.underlying23 rfl (szK _) ⟨rfl, hM⟩)
                  · exact fun wx hM => gw rfl (g_load_all 44 _ (p69) (pkc (((i : Nat) : Int)) (y) (G) (0) (zk)) 44 _ rfl (hM.get 1 rfl) Tryd.underlying44 rfl (szPk _ _ _ _ _) ⟨rfl, hM⟩)
                  · exact fun wx hM => gw rfl (g_call 22 _ _ [.agg (kc (Ka)).toArray, .agg (pkc (((i : Nat) : Int)) (y) (G) (0) (zk)).toArray] (kf22 _ _) rfl ((sright_any Ka ((i : Nat) : Int) y G 0 zk wx (hM.tabs hT) (by omega) hGs true hR).mono (fun _ _ ⟨h1_, h2_⟩ => ⟨_, h1_, rfl, hM.call h2_⟩)))
                  · exact fun wx hM => gw rfl (g_unot 4 _ true rfl ⟨rfl, hM⟩)
                  · exact fun wx hM => gw rfl (g_move _ (.bool false) rfl ⟨rfl, hM⟩)
                  · exact fun wx hM => gw rfl (g_fa 44 _ (p69) (0) (1) 1 rfl (faPk1 _ _ _) ⟨rfl, hM⟩)
                  · exact fun wx hM => gw rfl (g_ld1 9 _ (p69) (1) _ rfl (ld9 _ _ _ _ ((hM.get 1 rfl).cell (1) _ (rfl))) ⟨rfl, hM⟩)
                  · exact fun wx hM => gw rfl (g_move _ (.slice (some ⟨b, o, none⟩) (n) (cap)) rfl ⟨rfl, hM⟩)
                  · exact fun wx hM => gw rfl (g_move _ (.int .i64 (((j : Nat) : Int))) rfl ⟨rfl, hM⟩)
                  · exact fun wx hM => gw rfl (g_ix _ _ 26 39 2 Tryd.underlying26 szof39 b o n cap j (o + j * 2) _ rfl rfl rfl hjn rfl ⟨rfl, hM⟩)
                  · exact fun wx hM => gw rfl (g_fa 39 _ b (o + j * 2) (o + j * 2 + 1) 1 rfl (faCa1 _ _ _) ⟨rfl, hM⟩)
                  · exact fun wx hM => gw rfl (g_ld1 9 _ b (o + j * 2 + 1) _ rfl (ld9 _ _ _ _ (cell_on hM c1)) ⟨rfl, hM⟩)
                  · exact fun wx hM => gw rfl (g_sneq 9 _ _ (y) rfl rfl ⟨rfl, hM⟩)
                  · exact fun wx hM => gw rfl (g_pickf _ _ _ (.bool false) rfl rfl ⟨rfl, hM⟩)
                  · exact fun wx hM => gw rfl (g_move _ (.bool false) rfl ⟨rfl, hM⟩)
                  · exact fun wx hM => gw rfl (g_fa 44 _ (p69) (0) (3) 3 rfl (faPk3 _ _ _) ⟨rfl, hM⟩)
                  · exact fun wx hM => gw rfl (g_ld1 3 _ (p69) (3) _ rfl (ld3 _ _ _ _ ((hM.get 1 rfl).cell (3) _ (rfl))) ⟨rfl, hM⟩)
                  · exact fun wx hM => gw rfl (g_igtr 3 _ _ .i64 (0) (0) false rfl rfl (by decide) ⟨rfl, hM⟩)
                  · exact fun wx hM => gw rfl (g_move _ (.bool false) rfl ⟨rfl, hM⟩)
                  · exact fun wx hM => gn rfl ⟨rfl, hM⟩
                  · exact fun wx hM => gn rfl ⟨rfl, hM⟩
                  · exact fun wx hM => gn rfl ⟨rfl, hM⟩
                  · exact fun wx hM => gn rfl ⟨rfl, hM⟩
                  · exact fun wx hM => gn rfl ⟨rfl, hM⟩
                  · exact fun wx hM => gn rfl ⟨rfl, hM⟩
                  · exact fun wx hM => gn rfl ⟨rfl, hM⟩
                  · exact fun wx hM => gn rfl ⟨rfl, hM⟩
                  · exact fun wx hM => gw rfl (g_pickf _ _ _ (.bool false) rfl rfl ⟨rfl, hM⟩)
                  · exact fun wx hM => gw rfl (g_pickf _ _ _ (.bool false) rfl rfl ⟨rfl, hM⟩)
                  · exact fun wx hM => gw rfl (g_move _ (.bool false) rfl ⟨rfl, hM⟩)
                  · exact fun wx hM => gw rfl (g_fa 44 _ (p69) (0) (3) 3 rfl (faPk3 _ _ _) ⟨rfl, hM⟩)
                  · exact fun wx hM => gw rfl (g_ld1 3 _ (p69) (3) _ rfl (ld3 _ _ _ _ ((hM.get 1 rfl).cell (3) _ (rfl))) ⟨rfl, hM⟩)
                  · exact fun wx hM => gw rfl (g_ieq 3 _ _ .i64 (0) (0) true rfl rfl (by decide) ⟨rfl, hM⟩)
                  · exact fun wx hM => gw rfl (g_move _ (.bool true) rfl ⟨rfl, hM⟩)
                  · exact fun wx hM => gw rfl (g_fa 44 _ (p69) (0) (0) 0 rfl (faPk0 _ _ _) ⟨rfl, hM⟩)
                  · exact fun wx hM => gw rfl (g_ld1 3 _ (p69) (0) _ rfl (ld3 _ _ _ _ ((hM.get 1 rfl).cell (0) _ (rfl))) ⟨rfl, hM⟩)
                  · exact fun wx hM => gw rfl (g_fa 25 _ (w2.heap.size) (0) (2) 2 rfl (faPl2 _ _ _) ⟨rfl, hM⟩)
                  · exact fun wx hM => gw rfl (g_ld1 3 _ (w2.heap.size) (2) _ rfl (ld3 _ _ _ _ ((hM.get 3 rfl).cell (2) _ (rfl))) ⟨rfl, hM⟩)
                  · exact fun wx hM => gw rfl (g_igtr 3 _ _ .i64 (((i : Nat) : Int)) ((P).dl) false rfl rfl (decide_eq_false hle) ⟨rfl, hM⟩)
                  · exact fun wx hM => gw rfl (g_move _ (.bool false) rfl ⟨rfl, hM⟩)
                  · exact fun wx hM => gw rfl (g_fa 44 _ (p69) (0) (4) 4 rfl (faPk4 _ _ _) ⟨rfl, hM⟩)
                  · exact fun wx hM => gw rfl (g_load 23 _ (p69) (4) 32 _ 44 _ rfl (hM.get 1 rfl) Tryd.underlying23 rfl size23 (by rw [pkc_length]; decide) (kc (zk)) (pk_key (zk) (((i : Nat) : Int)) (y) (G) (0)) ⟨rfl, hM⟩)
                  · exact fun wx hM => gw rfl (g_bldK0 ⟨rfl, hM⟩)
                  · exact fun wx hM => gw rfl (g_nK _ _ (zk) (zk) true false rfl rfl (decide_eq_true rfl) rfl ⟨rfl, hM⟩)
                  · exact fun wx hM => gw rfl (g_pickf _ _ _ (.bool false) rfl rfl ⟨rfl, hM⟩)
                  · exact fun wx hM => gw rfl (g_pickt _ _ _ (.bool false) rfl rfl ⟨rfl, hM⟩)
                  · exact fun wx hM => gw rfl (g_pickf _ _ _ (.bool false) rfl rfl ⟨rfl, hM⟩)
                · simp only [fullL, Act.put, st_a, st_s, st_0]
                  intro w78 hM
                  refine hK77 _ _ ?_
                  (try clear hK77 K77)
                  refine wp_cond_false rfl ?_
                  refine wp_skip ?_
                  refine hK76 _ _ ?_
                  (try clear hK76 K76)
                  refine wp_seq_k (fun K79 hK79 => ?_)
                  refine wl_region ?_
                  refine wl_give rfl (g_fa 44 _ (p69) (0) (3) 3 rfl (faPk3 _ _ _) ?_)
                  (try simp only [Act.put, st_a, st_0, st_s])
                  refine wl_give rfl (g_ld1 3 _ (p69) (3) _ rfl (ld3 _ _ _ _ ((hM.get 1 rfl).cell (3) _ (rfl))) ?_)
                  (try simp only [Act.put, st_a, st_0, st_s])
                  refine wl_give rfl (g_igtr 3 _ _ .i64 (0) (0) false rfl rfl (by decide) ?_)
                  (try simp only [Act.put, st_a, st_0, st_s])
                  refine wl_nil ?_
                  refine hK79 _ _ ?_
                  (try clear hK79 K79)
                  refine wp_cond_false rfl ?_
                  refine wp_skip ?_
                  refine hK63 _ _ ?_
                  (try clear hK63 K63)
                  refine wl_region ?_
                  refine wl_give rfl (g_move _ (.int .i64 (((j : Nat) : Int))) rfl ?_)
                  (try simp only [Act.put, st_a, st_0, st_s])
                  refine wl_give rfl (g_ia 3 _ _ .i64 (((j : Nat) : Int)) (1) (((j + 1 : Nat) : Int)) rfl rfl ej.out ?_)
                  (try simp only [Act.put, st_a, st_0, st_s])
                  refine wl_give rfl (g_assign _ (.int .i64 (((j + 1 : Nat) : Int))) rfl ?_)
                  (try simp only [Act.put, st_a, st_0, st_s])
                  refine wl_nil ?_
                  (try simp only [Exit.then, Exit.inBlock, ↓reduceIte, Nat.reduceEqDiff])
                  go_roundw
                  case rel => exact ⟨j + 1, ((i : Nat) : Int), by omega, rfl, (((((hM.erase 0).erase 0).up 2 rfl).up 2 rfl).up 2 rfl)⟩
                  case measure => simp [intOf]; omega
      · skip
        refine wp_seq_k (fun K80 hK80 => ?_)
        refine wp_seq_k (fun K81 hK81 => ?_)
        refine wl_region ?_
        refine wl_give rfl (g_move _ (.int .i64 (((j : Nat) : Int))) rfl ?_)
        (try simp only [Act.put, st_a, st_0, st_s])
        refine wl_give rfl (g_move _ (.slice ao (n) (cap)) rfl ?_)
        (try simp only [Act.put, st_a, st_0, st_s])
        refine wl_give rfl (g_len _ 26 39 (ao) (n) (cap) (((n : Nat) : Int)) Tryd.underlying26 rfl (rfl) ?_)
        (try simp only [Act.put, st_a, st_0, st_s])
        refine wl_give rfl (g_ilss 3 _ _ .i64 (((j : Nat) : Int)) (((n : Nat) : Int)) true rfl rfl (decide_eq_true (by omega)) ?_)
        (try simp only [Act.put, st_a, st_0, st_s])
        refine wl_give rfl (g_move _ (.bool true) rfl ?_)
        (try simp only [Act.put, st_a, st_0, st_s])
        refine wl_give rfl (g_move _ (.int .i64 (((j : Nat) : Int))) rfl ?_)
        (try simp only [Act.put, st_a, st_0, st_s])
        refine wl_give rfl (g_ilss 3 _ _ .i64 (((j : Nat) : Int)) (30) false rfl rfl (decide_eq_false h30) ?_)
        (try simp only [Act.put, st_a, st_0, st_s])
        refine wl_give rfl (g_pickt _ _ _ (.bool false) rfl rfl ?_)
        (try simp only [Act.put, st_a, st_0, st_s])
        refine wl_nil ?_
        refine hK81 _ _ ?_
        (try clear hK81 K81)
        refine wp_cond_false rfl ?_
        refine wp_exit ?_
        refine hK15 _ _ ?_
        (try clear hK15 K15)
        refine wp_seq_k (fun K82 hK82 => ?_)
        refine wl_region ?_
        refine wl_give rfl (g_assign _ (.bool true) rfl ?_)
        (try simp only [Act.put, st_a, st_0, st_s])
        refine wl_nil ?_
        refine hK82 _ _ ?_
        (try clear hK82 K82)
        refine wp_ret ?_
        go_ret
        exact ⟨rfl, hM.below⟩
    · skip
      refine wp_seq_k (fun K83 hK83 => ?_)
      refine wp_seq_k (fun K84 hK84 => ?_)
      refine wl_region ?_
      refine wl_give rfl (g_move _ (.int .i64 (((j : Nat) : Int))) rfl ?_)
      (try simp only [Act.put, st_a, st_0, st_s])
      refine wl_give rfl (g_move _ (.slice ao (n) (cap)) rfl ?_)
      (try simp only [Act.put, st_a, st_0, st_s])
      refine wl_give rfl (g_len _ 26 39 (ao) (n) (cap) (((n : Nat) : Int)) Tryd.underlying26 rfl (rfl) ?_)
      (try simp only [Act.put, st_a, st_0, st_s])
      refine wl_give rfl (g_ilss 3 _ _ .i64 (((j : Nat) : Int)) (((n : Nat) : Int)) false rfl rfl (decide_eq_false (by omega)) ?_)
      (try simp only [Act.put, st_a, st_0, st_s])
      refine wl_give rfl (g_move _ (.bool false) rfl ?_)
      (try simp only [Act.put, st_a, st_0, st_s])
      refine wl_skip rfl ?_
      (try simp only [Act.put, st_a, st_0, st_s])
      refine wl_skip rfl ?_
      (try simp only [Act.put, st_a, st_0, st_s])
      refine wl_give rfl (g_pickf _ _ _ (.bool false) rfl rfl ?_)
      (try simp only [Act.put, st_a, st_0, st_s])
      refine wl_nil ?_
      refine hK84 _ _ ?_
      (try clear hK84 K84)
      refine wp_cond_false rfl ?_
      refine wp_exit ?_
      refine hK15 _ _ ?_
      (try clear hK15 K15)
      refine wp_seq_k (fun K85 hK85 => ?_)
      refine wl_region ?_
      refine wl_give rfl (g_assign _ (.bool true) rfl ?_)
      (try simp only [Act.put, st_a, st_0, st_s])
      refine wl_nil ?_
      refine hK85 _ _ ?_
      (try clear hK85 K85)
      refine wp_ret ?_
      go_ret
      exact ⟨rfl, hM.below⟩
theorem walk (l0 : List UInt8) (h0 : l0.length = 32) (P : Pl) (ao : Option Addr) (n cap : Nat) (w : World) (hT : Tabs w) (hp : PIn P) (hc : LC w ao n) (hn : n ≤ cap) (hz : cap ≤ maxLen) : Calls Tryd.prog 5 #[.agg (bc l0).toArray, .agg (plc P).toArray, .slice ao n cap] w fun e w' => e = .returned (.bool true) ∧ Below w.heap.size w w' := by
  unfold maxLen at hz
  by_cases hP : POk P
  · by_cases h1 : 16 < P.ct
    · exact walk_2 ⟨l0, h0⟩ P ao n cap w hT hP h1
    · exact walk_3 ⟨l0, h0⟩ P ao n cap w hT hP h1 hc (by omega)
  · exact walk_1 ⟨l0, h0⟩ P ao n cap w hT hP
end Go.Proofs.YtphocklnhoakcaaDoor.senderTells
