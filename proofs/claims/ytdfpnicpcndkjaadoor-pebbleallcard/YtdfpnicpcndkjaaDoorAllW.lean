/- PebbleAll: the walk. -/
import Derived.Test.YtdfpnicpcndkjaaDoorAwake
import Derived.WalkKit
import Derived.WalkSpells
import Derived.WalkLawsBesides
namespace Go.Proofs.YtdfpnicpcndkjaaDoor.pebbleAll
set_option maxRecDepth 10000
open Go Go.RowKit
set_option linter.unusedVariables false
set_option linter.unusedSimpArgs false

set_option maxHeartbeats 4000000 in
theorem walk_a (s : Ky) (n : Int) (w : World) (hT : Tabs w) (F : Int) (k : Nat) (L : Ky) (eF : Shut (n.tmod 40 = F)) (wF : Shut (IntKind.i64.wrap F = F)) (ek : Shut (IntKind.i64.wrap (F + 1) = ((k : Nat) : Int))) (h1 : 1 ≤ k) (h2 : k ≤ 40) (hL : Shut (tg s chainW = L)) : Calls Tryd.prog 4 #[.agg (kc s).toArray, .int .u8 n] w fun e w' => e = .returned (.bool true) ∧ Below w.heap.size w w' := by
  have h3 : k ≤ 1024 := by omega
  have hM := Ms.refl w
  go_enter Tryd.func4, Tryd.ntmps4
  refine wp_seq_k (fun K1 hK1 => ?_)
  refine wl_region ?_
  refine wl_give rfl (g_box 23 _ (kc (s)) rfl ?_)
  intro w2 t_ b_
  replace hM : Ms w w2 [blk (w.heap.size) (kc (s)) 23] := hM.new t_ b_
  clear t_ b_
  (try simp only [Act.put, List.setIfInBounds_toArray, List.set_cons_zero, List.set_cons_succ])
  refine wl_give rfl (g_assign _ (.bool false) rfl ?_)
  (try simp only [Act.put, List.setIfInBounds_toArray, List.set_cons_zero, List.set_cons_succ])
  refine wl_nil ?_
  refine hK1 _ _ ?_
  (try clear hK1 K1)
  refine wp_seq_k (fun K3 hK3 => ?_)
  refine wp_seq_k (fun K4 hK4 => ?_)
  refine wl_region ?_
  refine wl_give rfl (g_call 9 _ _ [] (kf9 _ _) rfl ((awake_any w2 (hM.tabs hT)).mono ?_))
  rintro e w5 ⟨rfl, t_⟩
  refine ⟨_, rfl, ?_⟩
  replace hM := hM.call t_
  clear t_
  (try simp only [Act.put, List.setIfInBounds_toArray, List.set_cons_zero, List.set_cons_succ])
  refine wl_give rfl (g_unot 4 _ true rfl ?_)
  (try simp only [Act.put, List.setIfInBounds_toArray, List.set_cons_zero, List.set_cons_succ])
  refine wl_nil ?_
  refine hK4 _ _ ?_
  (try clear hK4 K4)
  refine wp_cond_false rfl ?_
  refine wp_skip ?_
  refine hK3 _ _ ?_
  (try clear hK3 K3)
  refine wp_seq_k (fun K6 hK6 => ?_)
  refine wl_region ?_
  refine wl_give rfl (g_move _ (.int .u8 (n)) rfl ?_)
  (try simp only [Act.put, List.setIfInBounds_toArray, List.set_cons_zero, List.set_cons_succ])
  refine wl_give rfl (g_irem 5 _ _ .u8 (n) (40) (F) rfl rfl (by decide) eF.out ?_)
  (try simp only [Act.put, List.setIfInBounds_toArray, List.set_cons_zero, List.set_cons_succ])
  refine wl_give rfl (g_cv_5_3 _ (F) (F) rfl (wF.out) ?_)
  (try simp only [Act.put, List.setIfInBounds_toArray, List.set_cons_zero, List.set_cons_succ])
  refine wl_give rfl (g_ia 3 _ _ .i64 (F) (1) (((k : Nat) : Int)) rfl rfl ek.out ?_)
  (try simp only [Act.put, List.setIfInBounds_toArray, List.set_cons_zero, List.set_cons_succ])
  refine wl_give rfl (g_assign _ (.int .i64 (((k : Nat) : Int))) rfl ?_)
  (try simp only [Act.put, List.setIfInBounds_toArray, List.set_cons_zero, List.set_cons_succ])
  refine wl_nil ?_
  refine hK6 _ _ ?_
  (try clear hK6 K6)
  refine wp_seq_k (fun K7 hK7 => ?_)
  refine wl_region ?_
  refine wl_give rfl (g_load_all 23 _ (w.heap.size) (kc (s)) 23 _ rfl (hM.get 0 rfl) Tryd.underlying23 rfl (szK _) ?_)
  (try simp only [Act.put, List.setIfInBounds_toArray, List.set_cons_zero, List.set_cons_succ])
  refine wl_give rfl (g_move _ (.int .i64 (((k : Nat) : Int))) rfl ?_)
  (try simp only [Act.put, List.setIfInBounds_toArray, List.set_cons_zero, List.set_cons_succ])
  refine wl_give rfl (g_call 10 _ _ [.agg (kc (s)).toArray, .int .i64 (((k : Nat) : Int))] (kf10 _ _) rfl ((wnew_any s (k) L w w5 _ hM hT h1 (by omega) hL).mono ?_))
  rintro e w8 ⟨p9, rfl, h_⟩
  refine ⟨_, rfl, ?_⟩
  replace hM : Ms w w8 [wk p9 (k) L (0) 1, blk (w.heap.size) (kc (s)) 23] := h_
  clear h_
  (try simp only [Act.put, List.setIfInBounds_toArray, List.set_cons_zero, List.set_cons_succ])
  refine wl_give rfl (g_move _ (.tuple #[.pointer (some ⟨p9, 0, none⟩), .int .i64 (0)]) rfl ?_)
  (try simp only [Act.put, List.setIfInBounds_toArray, List.set_cons_zero, List.set_cons_succ])
  refine wl_give rfl (g_extract _ #[.pointer (some ⟨p9, 0, none⟩), .int .i64 (0)] 0 (.pointer (some ⟨p9, 0, none⟩)) rfl rfl ?_)
  (try simp only [Act.put, List.setIfInBounds_toArray, List.set_cons_zero, List.set_cons_succ])
  refine wl_give rfl (g_extract _ #[.pointer (some ⟨p9, 0, none⟩), .int .i64 (0)] 1 (.int .i64 (0)) rfl rfl ?_)
  (try simp only [Act.put, List.setIfInBounds_toArray, List.set_cons_zero, List.set_cons_succ])
  refine wl_give rfl (g_assign _ (.pointer (some ⟨p9, 0, none⟩)) rfl ?_)
  (try simp only [Act.put, List.setIfInBounds_toArray, List.set_cons_zero, List.set_cons_succ])
  refine wl_give rfl (g_assign _ (.int .i64 (0)) rfl ?_)
  (try simp only [Act.put, List.setIfInBounds_toArray, List.set_cons_zero, List.set_cons_succ])
  refine wl_nil ?_
  refine hK7 _ _ ?_
  (try clear hK7 K7)
  refine wp_seq_k (fun K10 hK10 => ?_)
  refine wp_seq_k (fun K11 hK11 => ?_)
  refine wl_region ?_
  refine wl_give rfl (g_move _ (.pointer (some ⟨p9, 0, none⟩)) rfl ?_)
  (try simp only [Act.put, List.setIfInBounds_toArray, List.set_cons_zero, List.set_cons_succ])
  refine wl_give rfl (g_peq _ ((some ⟨p9, 0, none⟩)) false rfl rfl ?_)
  (try simp only [Act.put, List.setIfInBounds_toArray, List.set_cons_zero, List.set_cons_succ])
  refine wl_give rfl (g_move _ (.bool false) rfl ?_)
  (try simp only [Act.put, List.setIfInBounds_toArray, List.set_cons_zero, List.set_cons_succ])
  refine wl_give rfl (g_move _ (.int .i64 (0)) rfl ?_)
  (try simp only [Act.put, List.setIfInBounds_toArray, List.set_cons_zero, List.set_cons_succ])
  refine wl_give rfl (g_ine 27 _ _ .i64 (0) (0) false rfl rfl (by decide) ?_)
  (try simp only [Act.put, List.setIfInBounds_toArray, List.set_cons_zero, List.set_cons_succ])
  refine wl_give rfl (g_pickf _ _ _ (.bool false) rfl rfl ?_)
  (try simp only [Act.put, List.setIfInBounds_toArray, List.set_cons_zero, List.set_cons_succ])
  refine wl_nil ?_
  refine hK11 _ _ ?_
  (try clear hK11 K11)
  refine wp_cond_false rfl ?_
  refine wp_skip ?_
  refine hK10 _ _ ?_
  (try clear hK10 K10)
  refine wp_seq_k (fun K12 hK12 => ?_)
  refine wp_seq_k (fun K13 hK13 => ?_)
  refine wl_region ?_
  refine wl_give rfl (g_assign _ (.int .i64 (0)) rfl ?_)
  (try simp only [Act.put, List.setIfInBounds_toArray, List.set_cons_zero, List.set_cons_succ])
  refine wl_nil ?_
  refine hK13 _ _ ?_
  (try clear hK13 K13)
  refine wp_block ?_
  go_loopw [8] (fun v wr => ∃ i m : Nat, i ≤ k + 1 ∧ v = .int .i64 ((i : Nat) : Int) ∧ Ms w wr [wk p9 (k) L (i) m, blk (w.heap.size) (kc (s)) 23]) (fun v _ => (k + 1 - intOf v).toNat)
  case atStart => exact ⟨0, _, by omega, rfl, hM⟩
  case round =>
    clear hM
    obtain ⟨i, m, hi, rfl, hM⟩ := hrel
    by_cases hlt : ((i : Nat) : Int) ≤ ((k : Nat) : Int)
    · skip
      obtain ⟨X, hX0⟩ : ∃ X, wl (k - i) L = X := ⟨_, rfl⟩
      have hX : Shut (nx k L i = ((X, 0), i + 1)) := ⟨by rw [nx_ok _ _ _ (by omega), hX0]⟩
      have hY : Shut (ky s ((k : Nat) : Int) ((i : Nat) : Int) = (X, 0)) := ⟨by rw [ky_nat s L k i h1 (by omega) (by omega) hL.out, hX0]⟩
      have ei : Shut (IntKind.i64.wrap (((i : Nat) : Int) + 1) = ((i + 1 : Nat) : Int)) := ⟨by rw [wrap_id _ (by omega) (by omega)]; omega⟩
      obtain ⟨d, hd⟩ : ∃ d : Int, Shut ((k : Int) - i = d) := ⟨_, ⟨rfl⟩⟩
      have ed : Shut (IntKind.i64.wrap (((k : Nat) : Int) - ((i : Nat) : Int)) = d) := ⟨by rw [wrap_id _ (by omega) (by omega)]; exact hd.out⟩
      clear hX0
      refine wp_seq_k (fun K14 hK14 => ?_)
      refine wp_seq_k (fun K15 hK15 => ?_)
      refine wl_region ?_
      refine wl_give rfl (g_move _ (.int .i64 (((i : Nat) : Int))) rfl ?_)
      (try simp only [Act.put, List.setIfInBounds_toArray, List.set_cons_zero, List.set_cons_succ])
      refine wl_give rfl (g_move _ (.int .i64 (((k : Nat) : Int))) rfl ?_)
      (try simp only [Act.put, List.setIfInBounds_toArray, List.set_cons_zero, List.set_cons_succ])
      refine wl_give rfl (g_ileq 3 _ _ .i64 (((i : Nat) : Int)) (((k : Nat) : Int)) true rfl rfl (decide_eq_true hlt) ?_)
      (try simp only [Act.put, List.setIfInBounds_toArray, List.set_cons_zero, List.set_cons_succ])
      refine wl_nil ?_
      refine hK15 _ _ ?_
      (try clear hK15 K15)
      refine wp_cond_true rfl ?_
      refine wp_skip ?_
      refine hK14 _ _ ?_
      (try clear hK14 K14)
      refine wp_seq_k (fun K16 hK16 => ?_)
      refine wp_block ?_
      refine wp_seq_k (fun K17 hK17 => ?_)
      refine wl_region ?_
      refine wl_give rfl (g_move _ (.pointer (some ⟨p9, 0, none⟩)) rfl ?_)
      (try simp only [Act.put, List.setIfInBounds_toArray, List.set_cons_zero, List.set_cons_succ])
      refine wl_give rfl (g_call 15 _ _ [.pointer (some ⟨p9, 0, none⟩)] (kf15 _ _) rfl ((pnext_any hM hT X 0 (i + 1) hX).mono ?_))
      rintro e w18 ⟨m19, rfl, h_⟩
      refine ⟨_, rfl, ?_⟩
      replace hM : Ms w w18 [wk p9 (k) L (i + 1) m19, blk (w.heap.size) (kc (s)) 23] := h_
      clear h_
      (try simp only [Act.put, List.setIfInBounds_toArray, List.set_cons_zero, List.set_cons_succ])
      refine wl_give rfl (g_move _ (.tuple #[.agg (kc (X)).toArray, .int .i64 (0)]) rfl ?_)
      (try simp only [Act.put, List.setIfInBounds_toArray, List.set_cons_zero, List.set_cons_succ])
      refine wl_give rfl (g_extract _ #[.agg (kc (X)).toArray, .int .i64 (0)] 0 (.agg (kc (X)).toArray) rfl rfl ?_)
      (try simp only [Act.put, List.setIfInBounds_toArray, List.set_cons_zero, List.set_cons_succ])
      refine wl_give rfl (g_extract _ #[.agg (kc (X)).toArray, .int .i64 (0)] 1 (.int .i64 (0)) rfl rfl ?_)
      (try simp only [Act.put, List.setIfInBounds_toArray, List.set_cons_zero, List.set_cons_succ])
      refine wl_give rfl (g_alloc 23 (kc (zk)) zeroK ?_)
      intro w20 t_ b_
      replace hM : Ms w w20 [blk (w18.heap.size) (kc (zk)) 23, wk p9 (k) L (i + 1) m19, blk (w.heap.size) (kc (s)) 23] := hM.new t_ b_
      clear t_ b_
      (try simp only [Act.put, List.setIfInBounds_toArray, List.set_cons_zero, List.set_cons_succ])
      refine wl_give rfl (g_store_all 23 _ _ (w18.heap.size) (kc (X)) _ 23 rfl rfl (hM.get 0 rfl) (szK _) (kk_len _ _) (one_kc _) ?_)
      intro w21 t_ b_
      replace hM : Ms w w21 [blk (w18.heap.size) (kc (X)) 23, wk p9 (k) L (i + 1) m19, blk (w.heap.size) (kc (s)) 23] := hM.put 0 rfl t_ b_
      clear t_ b_
      (try simp only [Act.put, List.setIfInBounds_toArray, List.set_cons_zero, List.set_cons_succ])
      refine wl_give rfl (g_assign _ (.int .i64 (0)) rfl ?_)
      (try simp only [Act.put, List.setIfInBounds_toArray, List.set_cons_zero, List.set_cons_succ])
      refine wl_nil ?_
      refine hK17 _ _ ?_
      (try clear hK17 K17)
      refine wp_seq_k (fun K22 hK22 => ?_)
      refine wl_region ?_
      refine wl_give rfl (g_load_all 23 _ (w.heap.size) (kc (s)) 23 _ rfl (hM.get 2 rfl) Tryd.underlying23 rfl (szK _) ?_)
      (try simp only [Act.put, List.setIfInBounds_toArray, List.set_cons_zero, List.set_cons_succ])
      refine wl_give rfl (g_move _ (.int .i64 (((k : Nat) : Int))) rfl ?_)
      (try simp only [Act.put, List.setIfInBounds_toArray, List.set_cons_zero, List.set_cons_succ])
      refine wl_give rfl (g_move _ (.int .i64 (((i : Nat) : Int))) rfl ?_)
      (try simp only [Act.put, List.setIfInBounds_toArray, List.set_cons_zero, List.set_cons_succ])
      refine wl_give rfl (g_call 19 _ _ [.agg (kc (s)).toArray, .int .i64 (((k : Nat) : Int)), .int .i64 (((i : Nat) : Int))] (kf19 _ _) rfl ((rckey_any s (((k : Nat) : Int)) (((i : Nat) : Int)) w21 X 0 hY).mono ?_))
      rintro e w23 ⟨rfl, t_⟩
      refine ⟨_, rfl, ?_⟩
      replace hM := hM.call t_
      clear t_
      (try simp only [Act.put, List.setIfInBounds_toArray, List.set_cons_zero, List.set_cons_succ])
      refine wl_give rfl (g_move _ (.tuple #[.agg (kc (X)).toArray, .int .i64 (0)]) rfl ?_)
      (try simp only [Act.put, List.setIfInBounds_toArray, List.set_cons_zero, List.set_cons_succ])
      refine wl_give rfl (g_extract _ #[.agg (kc (X)).toArray, .int .i64 (0)] 0 (.agg (kc (X)).toArray) rfl rfl ?_)
      (try simp only [Act.put, List.setIfInBounds_toArray, List.set_cons_zero, List.set_cons_succ])
      refine wl_give rfl (g_extract _ #[.agg (kc (X)).toArray, .int .i64 (0)] 1 (.int .i64 (0)) rfl rfl ?_)
      (try simp only [Act.put, List.setIfInBounds_toArray, List.set_cons_zero, List.set_cons_succ])
      refine wl_give rfl (g_alloc 23 (kc (zk)) zeroK ?_)
      intro w24 t_ b_
      replace hM : Ms w w24 [blk (w23.heap.size) (kc (zk)) 23, blk (w18.heap.size) (kc (X)) 23, wk p9 (k) L (i + 1) m19, blk (w.heap.size) (kc (s)) 23] := hM.new t_ b_
      clear t_ b_
      (try simp only [Act.put, List.setIfInBounds_toArray, List.set_cons_zero, List.set_cons_succ])
      refine wl_give rfl (g_store_all 23 _ _ (w23.heap.size) (kc (X)) _ 23 rfl rfl (hM.get 0 rfl) (szK _) (kk_len _ _) (one_kc _) ?_)
      intro w25 t_ b_
      replace hM : Ms w w25 [blk (w23.heap.size) (kc (X)) 23, blk (w18.heap.size) (kc (X)) 23, wk p9 (k) L (i + 1) m19, blk (w.heap.size) (kc (s)) 23] := hM.put 0 rfl t_ b_
      clear t_ b_
      (try simp only [Act.put, List.setIfInBounds_toArray, List.set_cons_zero, List.set_cons_succ])
      refine wl_give rfl (g_assign _ (.int .i64 (0)) rfl ?_)
      (try simp only [Act.put, List.setIfInBounds_toArray, List.set_cons_zero, List.set_cons_succ])
      refine wl_nil ?_
      refine hK22 _ _ ?_
      (try clear hK22 K22)
      refine wp_seq_k (fun K26 hK26 => ?_)
      refine wl_region ?_
      refine wl_give rfl (g_move _ (.int .i64 (0)) rfl ?_)
      (try simp only [Act.put, List.setIfInBounds_toArray, List.set_cons_zero, List.set_cons_succ])
      refine wl_give rfl (g_ine 27 _ _ .i64 (0) (0) false rfl rfl (by decide) ?_)
      (try simp only [Act.put, List.setIfInBounds_toArray, List.set_cons_zero, List.set_cons_succ])
      refine wl_give rfl (g_move _ (.bool false) rfl ?_)
      (try simp only [Act.put, List.setIfInBounds_toArray, List.set_cons_zero, List.set_cons_succ])
      refine wl_give rfl (g_load_all 23 _ (w18.heap.size) (kc (X)) 23 _ rfl (hM.get 1 rfl) Tryd.underlying23 rfl (szK _) ?_)
      (try simp only [Act.put, List.setIfInBounds_toArray, List.set_cons_zero, List.set_cons_succ])
      refine wl_give rfl (g_load_all 23 _ (w23.heap.size) (kc (X)) 23 _ rfl (hM.get 0 rfl) Tryd.underlying23 rfl (szK _) ?_)
      (try simp only [Act.put, List.setIfInBounds_toArray, List.set_cons_zero, List.set_cons_succ])
      refine wl_give rfl (g_nK _ _ (X) (X) true false rfl rfl (decide_eq_true rfl) rfl ?_)
      (try simp only [Act.put, List.setIfInBounds_toArray, List.set_cons_zero, List.set_cons_succ])
      refine wl_give rfl (g_pickf _ _ _ (.bool false) rfl rfl ?_)
      (try simp only [Act.put, List.setIfInBounds_toArray, List.set_cons_zero, List.set_cons_succ])
      refine wl_give rfl (g_move _ (.bool false) rfl ?_)
      (try simp only [Act.put, List.setIfInBounds_toArray, List.set_cons_zero, List.set_cons_succ])
      refine wl_give rfl (g_move _ (.pointer (some ⟨p9, 0, none⟩)) rfl ?_)
      (try simp only [Act.put, List.setIfInBounds_toArray, List.set_cons_zero, List.set_cons_succ])
      refine wl_give rfl (g_call 11 _ _ [.pointer (some ⟨p9, 0, none⟩)] (kf11 _ _) rfl ((wat_any (show Ms w w25 [wk p9 (k) L (i + 1) m19, blk (w23.heap.size) (kc (X)) 23, blk (w18.heap.size) (kc (X)) 23, blk (w.heap.size) (kc (s)) 23] from (hM.up 2 rfl))).mono ?_))
      rintro e w27 ⟨rfl, t_⟩
      refine ⟨_, rfl, ?_⟩
      replace hM := hM.call t_
      clear t_
      (try simp only [Act.put, List.setIfInBounds_toArray, List.set_cons_zero, List.set_cons_succ])
      refine wl_give rfl (g_move _ (.int .i64 (((i : Nat) : Int))) rfl ?_)
      (try simp only [Act.put, List.setIfInBounds_toArray, List.set_cons_zero, List.set_cons_succ])
      refine wl_give rfl (g_ia 3 _ _ .i64 (((i : Nat) : Int)) (1) (((i + 1 : Nat) : Int)) rfl rfl ei.out ?_)
      (try simp only [Act.put, List.setIfInBounds_toArray, List.set_cons_zero, List.set_cons_succ])
      refine wl_give rfl (g_ine 3 _ _ .i64 (((i + 1 : Nat) : Int)) (((i + 1 : Nat) : Int)) false rfl rfl (decide_eq_false (fun h => h rfl)) ?_)
      (try simp only [Act.put, List.setIfInBounds_toArray, List.set_cons_zero, List.set_cons_succ])
      refine wl_give rfl (g_pickf _ _ _ (.bool false) rfl rfl ?_)
      (try simp only [Act.put, List.setIfInBounds_toArray, List.set_cons_zero, List.set_cons_succ])
      refine wl_give rfl (g_move _ (.bool false) rfl ?_)
      (try simp only [Act.put, List.setIfInBounds_toArray, List.set_cons_zero, List.set_cons_succ])
      refine wl_give rfl (g_move _ (.pointer (some ⟨p9, 0, none⟩)) rfl ?_)
      (try simp only [Act.put, List.setIfInBounds_toArray, List.set_cons_zero, List.set_cons_succ])
      refine wl_give rfl (g_call 12 _ _ [.pointer (some ⟨p9, 0, none⟩)] (kf12 _ _) rfl ((wleft_any (show Ms w w27 [wk p9 (k) L (i + 1) m19, blk (w23.heap.size) (kc (X)) 23, blk (w18.heap.size) (kc (X)) 23, blk (w.heap.size) (kc (s)) 23] from (hM.up 2 rfl)) (d) ⟨by have := hd.out; omega⟩).mono ?_))
      rintro e w28 ⟨rfl, t_⟩
      refine ⟨_, rfl, ?_⟩
      replace hM := hM.call t_
      clear t_
      (try simp only [Act.put, List.setIfInBounds_toArray, List.set_cons_zero, List.set_cons_succ])
      refine wl_give rfl (g_move _ (.int .i64 (((k : Nat) : Int))) rfl ?_)
      (try simp only [Act.put, List.setIfInBounds_toArray, List.set_cons_zero, List.set_cons_succ])
      refine wl_give rfl (g_move _ (.int .i64 (((i : Nat) : Int))) rfl ?_)
      (try simp only [Act.put, List.setIfInBounds_toArray, List.set_cons_zero, List.set_cons_succ])
      refine wl_give rfl (g_isub 3 _ _ .i64 (((k : Nat) : Int)) (((i : Nat) : Int)) (d) rfl rfl ed.out ?_)
      (try simp only [Act.put, List.setIfInBounds_toArray, List.set_cons_zero, List.set_cons_succ])
      refine wl_give rfl (g_ine 3 _ _ .i64 (d) (d) false rfl rfl (decide_eq_false (fun h => h rfl)) ?_)
      (try simp only [Act.put, List.setIfInBounds_toArray, List.set_cons_zero, List.set_cons_succ])
      refine wl_give rfl (g_pickf _ _ _ (.bool false) rfl rfl ?_)
      (try simp only [Act.put, List.setIfInBounds_toArray, List.set_cons_zero, List.set_cons_succ])
      refine wl_give rfl (g_move _ (.bool false) rfl ?_)
      (try simp only [Act.put, List.setIfInBounds_toArray, List.set_cons_zero, List.set_cons_succ])
      refine wl_give rfl (g_move _ (.pointer (some ⟨p9, 0, none⟩)) rfl ?_)
      (try simp only [Act.put, List.setIfInBounds_toArray, List.set_cons_zero, List.set_cons_succ])
      refine wl_give rfl (g_call 13 _ _ [.pointer (some ⟨p9, 0, none⟩)] (kf13 _ _) rfl ((wminds_any (show Ms w w28 [wk p9 (k) L (i + 1) m19, blk (w23.heap.size) (kc (X)) 23, blk (w18.heap.size) (kc (X)) 23, blk (w.heap.size) (kc (s)) 23] from (hM.up 2 rfl))).mono ?_))
      rintro e w29 ⟨rfl, t_⟩
      refine ⟨_, rfl, ?_⟩
      replace hM := hM.call t_
      clear t_
      (try simp only [Act.put, List.setIfInBounds_toArray, List.set_cons_zero, List.set_cons_succ])
      refine wl_give rfl (g_move _ (.int .i64 (((k : Nat) : Int))) rfl ?_)
      (try simp only [Act.put, List.setIfInBounds_toArray, List.set_cons_zero, List.set_cons_succ])
      refine wl_give rfl (g_call 14 _ _ [.int .i64 (((k : Nat) : Int))] (kf14 _ _) rfl ((most_any k h1 h3 w29).mono ?_))
      rintro e w30 ⟨rfl, t_⟩
      refine ⟨_, rfl, ?_⟩
      replace hM := hM.call t_
      clear t_
      (try simp only [Act.put, List.setIfInBounds_toArray, List.set_cons_zero, List.set_cons_succ])
      refine wl_give rfl (g_igtr 3 _ _ .i64 (((m19 : Nat) : Int)) (((mo k : Nat) : Int)) false rfl rfl (decide_eq_false (by have := wk_few (show Ms w _ [wk p9 (k) L (i + 1) m19, blk (w23.heap.size) (kc (X)) 23, blk (w18.heap.size) (kc (X)) 23, blk (w.heap.size) (kc (s)) 23] from (hM.up 2 rfl)); omega)) ?_)
      (try simp only [Act.put, List.setIfInBounds_toArray, List.set_cons_zero, List.set_cons_succ])
      refine wl_give rfl (g_pickf _ _ _ (.bool false) rfl rfl ?_)
      (try simp only [Act.put, List.setIfInBounds_toArray, List.set_cons_zero, List.set_cons_succ])
      refine wl_nil ?_
      refine hK26 _ _ ?_
      (try clear hK26 K26)
      refine wp_cond_false rfl ?_
      refine wp_skip ?_
      refine hK16 _ _ ?_
      (try clear hK16 K16)
      refine wl_region ?_
      refine wl_give rfl (g_move _ (.int .i64 (((i : Nat) : Int))) rfl ?_)
      (try simp only [Act.put, List.setIfInBounds_toArray, List.set_cons_zero, List.set_cons_succ])
      refine wl_give rfl (g_ia 3 _ _ .i64 (((i : Nat) : Int)) (1) (((i + 1 : Nat) : Int)) rfl rfl ei.out ?_)
      (try simp only [Act.put, List.setIfInBounds_toArray, List.set_cons_zero, List.set_cons_succ])
      refine wl_give rfl (g_assign _ (.int .i64 (((i + 1 : Nat) : Int))) rfl ?_)
      (try simp only [Act.put, List.setIfInBounds_toArray, List.set_cons_zero, List.set_cons_succ])
      refine wl_nil ?_
      (try simp only [Exit.then, Exit.inBlock, ↓reduceIte, Nat.reduceEqDiff])
      go_roundw
      case rel => exact ⟨i + 1, _, by omega, rfl, ((((hM.erase 1).erase 0).up 1 rfl).up 1 rfl)⟩
      case measure => simp [intOf]; omega
    · have hik : Shut (i = k + 1) := ⟨by omega⟩
      have hB : Shut (nx k L i = ((zk, 10), i)) := ⟨nx_end _ _ _ (by omega)⟩
      refine wp_seq_k (fun K31 hK31 => ?_)
      refine wp_seq_k (fun K32 hK32 => ?_)
      refine wl_region ?_
      refine wl_give rfl (g_move _ (.int .i64 (((i : Nat) : Int))) rfl ?_)
      (try simp only [Act.put, List.setIfInBounds_toArray, List.set_cons_zero, List.set_cons_succ])
      refine wl_give rfl (g_move _ (.int .i64 (((k : Nat) : Int))) rfl ?_)
      (try simp only [Act.put, List.setIfInBounds_toArray, List.set_cons_zero, List.set_cons_succ])
      refine wl_give rfl (g_ileq 3 _ _ .i64 (((i : Nat) : Int)) (((k : Nat) : Int)) false rfl rfl (decide_eq_false hlt) ?_)
      (try simp only [Act.put, List.setIfInBounds_toArray, List.set_cons_zero, List.set_cons_succ])
      refine wl_nil ?_
      refine hK32 _ _ ?_
      (try clear hK32 K32)
      refine wp_cond_false rfl ?_
      refine wp_exit ?_
      refine hK12 _ _ ?_
      (try clear hK12 K12)
      refine wp_seq_k (fun K33 hK33 => ?_)
      refine wl_region ?_
      refine wl_give rfl (g_move _ (.pointer (some ⟨p9, 0, none⟩)) rfl ?_)
      (try simp only [Act.put, List.setIfInBounds_toArray, List.set_cons_zero, List.set_cons_succ])
      refine wl_give rfl (g_call 15 _ _ [.pointer (some ⟨p9, 0, none⟩)] (kf15 _ _) rfl ((pnext_any hM hT zk 10 (i) hB).mono ?_))
      rintro e w34 ⟨m35, rfl, h_⟩
      refine ⟨_, rfl, ?_⟩
      replace hM : Ms w w34 [wk p9 (k) L (i) m35, blk (w.heap.size) (kc (s)) 23] := h_
      clear h_
      (try simp only [Act.put, List.setIfInBounds_toArray, List.set_cons_zero, List.set_cons_succ])
      refine wl_give rfl (g_move _ (.tuple #[.agg (kc (zk)).toArray, .int .i64 (10)]) rfl ?_)
      (try simp only [Act.put, List.setIfInBounds_toArray, List.set_cons_zero, List.set_cons_succ])
      refine wl_give rfl (g_extract _ #[.agg (kc (zk)).toArray, .int .i64 (10)] 0 (.agg (kc (zk)).toArray) rfl rfl ?_)
      (try simp only [Act.put, List.setIfInBounds_toArray, List.set_cons_zero, List.set_cons_succ])
      refine wl_give rfl (g_extract _ #[.agg (kc (zk)).toArray, .int .i64 (10)] 1 (.int .i64 (10)) rfl rfl ?_)
      (try simp only [Act.put, List.setIfInBounds_toArray, List.set_cons_zero, List.set_cons_succ])
      refine wl_give rfl (g_alloc 23 (kc (zk)) zeroK ?_)
      intro w36 t_ b_
      replace hM : Ms w w36 [blk (w34.heap.size) (kc (zk)) 23, wk p9 (k) L (i) m35, blk (w.heap.size) (kc (s)) 23] := hM.new t_ b_
      clear t_ b_
      (try simp only [Act.put, List.setIfInBounds_toArray, List.set_cons_zero, List.set_cons_succ])
      refine wl_give rfl (g_store_all 23 _ _ (w34.heap.size) (kc (zk)) _ 23 rfl rfl (hM.get 0 rfl) (szK _) (kk_len _ _) (one_kc _) ?_)
      intro w37 t_ b_
      replace hM : Ms w w37 [blk (w34.heap.size) (kc (zk)) 23, wk p9 (k) L (i) m35, blk (w.heap.size) (kc (s)) 23] := hM.put 0 rfl t_ b_
      clear t_ b_
      (try simp only [Act.put, List.setIfInBounds_toArray, List.set_cons_zero, List.set_cons_succ])
      refine wl_give rfl (g_assign _ (.int .i64 (10)) rfl ?_)
      (try simp only [Act.put, List.setIfInBounds_toArray, List.set_cons_zero, List.set_cons_succ])
      refine wl_nil ?_
      refine hK33 _ _ ?_
      (try clear hK33 K33)
      refine wp_seq_k (fun K38 hK38 => ?_)
      refine wl_region ?_
      refine wl_give rfl (g_move _ (.int .i64 (10)) rfl ?_)
      (try simp only [Act.put, List.setIfInBounds_toArray, List.set_cons_zero, List.set_cons_succ])
      refine wl_give rfl (g_ieq 27 _ _ .i64 (10) (10) true rfl rfl (by decide) ?_)
      (try simp only [Act.put, List.setIfInBounds_toArray, List.set_cons_zero, List.set_cons_succ])
      refine wl_give rfl (g_move _ (.bool true) rfl ?_)
      (try simp only [Act.put, List.setIfInBounds_toArray, List.set_cons_zero, List.set_cons_succ])
      refine wl_give rfl (g_move _ (.pointer (some ⟨p9, 0, none⟩)) rfl ?_)
      (try simp only [Act.put, List.setIfInBounds_toArray, List.set_cons_zero, List.set_cons_succ])
      refine wl_give rfl (g_call 13 _ _ [.pointer (some ⟨p9, 0, none⟩)] (kf13 _ _) rfl ((wminds_any (show Ms w w37 [wk p9 (k) L (i) m35, blk (w34.heap.size) (kc (zk)) 23, blk (w.heap.size) (kc (s)) 23] from (hM.up 1 rfl))).mono ?_))
      rintro e w39 ⟨rfl, t_⟩
      refine ⟨_, rfl, ?_⟩
      replace hM := hM.call t_
      clear t_
      (try simp only [Act.put, List.setIfInBounds_toArray, List.set_cons_zero, List.set_cons_succ])
      refine wl_give rfl (g_ieq 3 _ _ .i64 (((m35 : Nat) : Int)) (0) true rfl rfl (decide_eq_true (by have := (wk_few (show Ms w _ [wk p9 (k) L (i) m35, blk (w34.heap.size) (kc (zk)) 23, blk (w.heap.size) (kc (s)) 23] from (hM.up 1 rfl))).2.2.2.2 hik.out; omega)) ?_)
      (try simp only [Act.put, List.setIfInBounds_toArray, List.set_cons_zero, List.set_cons_succ])
      refine wl_give rfl (g_pickt _ _ _ (.bool true) rfl rfl ?_)
      (try simp only [Act.put, List.setIfInBounds_toArray, List.set_cons_zero, List.set_cons_succ])
      refine wl_give rfl (g_assign _ (.bool true) rfl ?_)
      (try simp only [Act.put, List.setIfInBounds_toArray, List.set_cons_zero, List.set_cons_succ])
      refine wl_nil ?_
      refine hK38 _ _ ?_
      (try clear hK38 K38)
      refine wp_ret ?_
      go_ret
      exact ⟨rfl, hM.below⟩
theorem walk (l0 : List UInt8) (h0 : l0.length = 32) (n : Int) (hn : (Lit.int .u8 n).wf = true) (w : World) (hT : Tabs w) : Calls Tryd.prog 4 #[.agg (bc l0).toArray, .int .u8 n] w fun e w' => e = .returned (.bool true) ∧ Below w.heap.size w w' := by
  obtain ⟨F, eF, hF⟩ := rem_nat n 40 (by decide) (in_u8 hn).1
  have g : ∀ x : Int, -9223372036854775808 ≤ x → x ≤ 9223372036854775807 → Shut (IntKind.i64.wrap x = x) := fun x a b => ⟨wrap_id x a b⟩
  obtain ⟨L, hL⟩ : ∃ L, tg ⟨l0, h0⟩ chainW = L := ⟨_, rfl⟩
  exact walk_a ⟨l0, h0⟩ n w hT F (F + 1) L ⟨eF⟩ (g _ (by omega) (by omega)) (g _ (by omega) (by omega)) (by omega) (by omega) ⟨hL⟩
end Go.Proofs.YtdfpnicpcndkjaaDoor.pebbleAll
