/- PebbleDoes: the walk. -/
import Derived.Test.YtdfpnicpcndkjaaDoorSlcArg
import Derived.WalkKit
import Derived.WalkSpells
import Derived.WalkLawsBesides
namespace Go.Proofs.YtdfpnicpcndkjaaDoor.pebbleDoes
set_option maxRecDepth 10000
open Go Go.RowKit
set_option linter.unusedVariables false
set_option linter.unusedSimpArgs false

set_option maxHeartbeats 4000000 in
theorem walk_lo (s : Ky) (ao : Option Addr) (c cap : Nat) (w : World) (hT : Tabs w) (n : Int) (h1 : n < 1) : Calls Tryd.prog 3 #[.agg (kc s).toArray, .int .i64 n, .slice ao c cap] w fun e w' => e = .returned (.bool true) ∧ Below w.heap.size w w' := by
  have h : n < 1 ∨ 1024 < n := by omega
  have hM := Ms.refl w
  go_enter Tryd.func3, Tryd.ntmps3
  refine wp_seq_k (fun K1 hK1 => ?_)
  refine wl_region ?_
  refine wl_give rfl (g_box 23 _ (kc (s)) rfl ?_)
  intro w2 t_ b_
  replace hM : Ms w w2 [blk (w.heap.size) (kc (s)) 23] := hM.new t_ b_
  clear t_ b_
  (try simp only [Act.put, List.setIfInBounds_toArray, List.set_cons_zero, List.set_cons_succ])
  refine wl_give rfl (g_assign _ (.bool false) rfl ?_)
  (try simp only [Act.put, List.setIfInBounds_toArray, List.set_cons_zero, List.set_cons_succ])
  refine wl_nil ?_
  refine hK1 _ _ ?_
  (try clear hK1 K1)
  refine wp_seq_k (fun K3 hK3 => ?_)
  refine wp_seq_k (fun K4 hK4 => ?_)
  refine wl_region ?_
  refine wl_give rfl (g_call 9 _ _ [] (kf9 _ _) rfl ((awake_any w2 (hM.tabs hT)).mono ?_))
  rintro e w5 ⟨rfl, t_⟩
  refine ⟨_, rfl, ?_⟩
  replace hM := hM.call t_
  clear t_
  (try simp only [Act.put, List.setIfInBounds_toArray, List.set_cons_zero, List.set_cons_succ])
  refine wl_give rfl (g_unot 4 _ true rfl ?_)
  (try simp only [Act.put, List.setIfInBounds_toArray, List.set_cons_zero, List.set_cons_succ])
  refine wl_nil ?_
  refine hK4 _ _ ?_
  (try clear hK4 K4)
  refine wp_cond_false rfl ?_
  refine wp_skip ?_
  refine hK3 _ _ ?_
  (try clear hK3 K3)
  refine wp_seq_k (fun K6 hK6 => ?_)
  refine wl_region ?_
  refine wl_give rfl (g_load_all 23 _ (w.heap.size) (kc (s)) 23 _ rfl (hM.get 0 rfl) Tryd.underlying23 rfl (szK _) ?_)
  (try simp only [Act.put, List.setIfInBounds_toArray, List.set_cons_zero, List.set_cons_succ])
  refine wl_give rfl (g_move _ (.int .i64 (n)) rfl ?_)
  (try simp only [Act.put, List.setIfInBounds_toArray, List.set_cons_zero, List.set_cons_succ])
  refine wl_give rfl (g_call 10 _ _ [.agg (kc (s)).toArray, .int .i64 (n)] (kf10 _ _) rfl ((new_bad s n w5 h).mono ?_))
  rintro e w7 ⟨rfl, t_⟩
  refine ⟨_, rfl, ?_⟩
  replace hM := hM.call t_
  clear t_
  (try simp only [Act.put, List.setIfInBounds_toArray, List.set_cons_zero, List.set_cons_succ])
  refine wl_give rfl (g_move _ (.tuple #[.pointer none, .int .i64 (1)]) rfl ?_)
  (try simp only [Act.put, List.setIfInBounds_toArray, List.set_cons_zero, List.set_cons_succ])
  refine wl_give rfl (g_extract _ #[.pointer none, .int .i64 (1)] 0 (.pointer none) rfl rfl ?_)
  (try simp only [Act.put, List.setIfInBounds_toArray, List.set_cons_zero, List.set_cons_succ])
  refine wl_give rfl (g_extract _ #[.pointer none, .int .i64 (1)] 1 (.int .i64 (1)) rfl rfl ?_)
  (try simp only [Act.put, List.setIfInBounds_toArray, List.set_cons_zero, List.set_cons_succ])
  refine wl_give rfl (g_assign _ (.pointer none) rfl ?_)
  (try simp only [Act.put, List.setIfInBounds_toArray, List.set_cons_zero, List.set_cons_succ])
  refine wl_give rfl (g_assign _ (.int .i64 (1)) rfl ?_)
  (try simp only [Act.put, List.setIfInBounds_toArray, List.set_cons_zero, List.set_cons_succ])
  refine wl_nil ?_
  refine hK6 _ _ ?_
  (try clear hK6 K6)
  refine wp_seq_k (fun K8 hK8 => ?_)
  refine wp_seq_k (fun K9 hK9 => ?_)
  refine wl_region ?_
  refine wl_give rfl (g_move _ (.int .i64 (n)) rfl ?_)
  (try simp only [Act.put, List.setIfInBounds_toArray, List.set_cons_zero, List.set_cons_succ])
  refine wl_give rfl (g_ilss 3 _ _ .i64 (n) (1) true rfl rfl (decide_eq_true h1) ?_)
  (try simp only [Act.put, List.setIfInBounds_toArray, List.set_cons_zero, List.set_cons_succ])
  refine wl_give rfl (g_move _ (.bool true) rfl ?_)
  (try simp only [Act.put, List.setIfInBounds_toArray, List.set_cons_zero, List.set_cons_succ])
  refine wl_skip rfl ?_
  (try simp only [Act.put, List.setIfInBounds_toArray, List.set_cons_zero, List.set_cons_succ])
  refine wl_skip rfl ?_
  (try simp only [Act.put, List.setIfInBounds_toArray, List.set_cons_zero, List.set_cons_succ])
  refine wl_give rfl (g_pickt _ _ _ (.bool true) rfl rfl ?_)
  (try simp only [Act.put, List.setIfInBounds_toArray, List.set_cons_zero, List.set_cons_succ])
  refine wl_nil ?_
  refine hK9 _ _ ?_
  (try clear hK9 K9)
  refine wp_cond_true rfl ?_
  refine wp_seq_k (fun K10 hK10 => ?_)
  refine wl_region ?_
  refine wl_give rfl (g_move _ (.pointer none) rfl ?_)
  (try simp only [Act.put, List.setIfInBounds_toArray, List.set_cons_zero, List.set_cons_succ])
  refine wl_give rfl (g_peq _ (none) true rfl rfl ?_)
  (try simp only [Act.put, List.setIfInBounds_toArray, List.set_cons_zero, List.set_cons_succ])
  refine wl_give rfl (g_move _ (.bool true) rfl ?_)
  (try simp only [Act.put, List.setIfInBounds_toArray, List.set_cons_zero, List.set_cons_succ])
  refine wl_give rfl (g_move _ (.int .i64 (1)) rfl ?_)
  (try simp only [Act.put, List.setIfInBounds_toArray, List.set_cons_zero, List.set_cons_succ])
  refine wl_give rfl (g_ieq 27 _ _ .i64 (1) (1) true rfl rfl (by decide) ?_)
  (try simp only [Act.put, List.setIfInBounds_toArray, List.set_cons_zero, List.set_cons_succ])
  refine wl_give rfl (g_pickt _ _ _ (.bool true) rfl rfl ?_)
  (try simp only [Act.put, List.setIfInBounds_toArray, List.set_cons_zero, List.set_cons_succ])
  refine wl_give rfl (g_assign _ (.bool true) rfl ?_)
  (try simp only [Act.put, List.setIfInBounds_toArray, List.set_cons_zero, List.set_cons_succ])
  refine wl_nil ?_
  refine hK10 _ _ ?_
  (try clear hK10 K10)
  refine wp_ret ?_
  go_ret
  exact ⟨rfl, hM.below⟩
set_option maxHeartbeats 4000000 in
theorem walk_hi (s : Ky) (ao : Option Addr) (c cap : Nat) (w : World) (hT : Tabs w) (n : Int) (h1 : ¬ n < 1) (h2 : 1024 < n) : Calls Tryd.prog 3 #[.agg (kc s).toArray, .int .i64 n, .slice ao c cap] w fun e w' => e = .returned (.bool true) ∧ Below w.heap.size w w' := by
  have h : n < 1 ∨ 1024 < n := by omega
  have hM := Ms.refl w
  go_enter Tryd.func3, Tryd.ntmps3
  refine wp_seq_k (fun K1 hK1 => ?_)
  refine wl_region ?_
  refine wl_give rfl (g_box 23 _ (kc (s)) rfl ?_)
  intro w2 t_ b_
  replace hM : Ms w w2 [blk (w.heap.size) (kc (s)) 23] := hM.new t_ b_
  clear t_ b_
  (try simp only [Act.put, List.setIfInBounds_toArray, List.set_cons_zero, List.set_cons_succ])
  refine wl_give rfl (g_assign _ (.bool false) rfl ?_)
  (try simp only [Act.put, List.setIfInBounds_toArray, List.set_cons_zero, List.set_cons_succ])
  refine wl_nil ?_
  refine hK1 _ _ ?_
  (try clear hK1 K1)
  refine wp_seq_k (fun K3 hK3 => ?_)
  refine wp_seq_k (fun K4 hK4 => ?_)
  refine wl_region ?_
  refine wl_give rfl (g_call 9 _ _ [] (kf9 _ _) rfl ((awake_any w2 (hM.tabs hT)).mono ?_))
  rintro e w5 ⟨rfl, t_⟩
  refine ⟨_, rfl, ?_⟩
  replace hM := hM.call t_
  clear t_
  (try simp only [Act.put, List.setIfInBounds_toArray, List.set_cons_zero, List.set_cons_succ])
  refine wl_give rfl (g_unot 4 _ true rfl ?_)
  (try simp only [Act.put, List.setIfInBounds_toArray, List.set_cons_zero, List.set_cons_succ])
  refine wl_nil ?_
  refine hK4 _ _ ?_
  (try clear hK4 K4)
  refine wp_cond_false rfl ?_
  refine wp_skip ?_
  refine hK3 _ _ ?_
  (try clear hK3 K3)
  refine wp_seq_k (fun K6 hK6 => ?_)
  refine wl_region ?_
  refine wl_give rfl (g_load_all 23 _ (w.heap.size) (kc (s)) 23 _ rfl (hM.get 0 rfl) Tryd.underlying23 rfl (szK _) ?_)
  (try simp only [Act.put, List.setIfInBounds_toArray, List.set_cons_zero, List.set_cons_succ])
  refine wl_give rfl (g_move _ (.int .i64 (n)) rfl ?_)
  (try simp only [Act.put, List.setIfInBounds_toArray, List.set_cons_zero, List.set_cons_succ])
  refine wl_give rfl (g_call 10 _ _ [.agg (kc (s)).toArray, .int .i64 (n)] (kf10 _ _) rfl ((new_bad s n w5 h).mono ?_))
  rintro e w7 ⟨rfl, t_⟩
  refine ⟨_, rfl, ?_⟩
  replace hM := hM.call t_
  clear t_
  (try simp only [Act.put, List.setIfInBounds_toArray, List.set_cons_zero, List.set_cons_succ])
  refine wl_give rfl (g_move _ (.tuple #[.pointer none, .int .i64 (1)]) rfl ?_)
  (try simp only [Act.put, List.setIfInBounds_toArray, List.set_cons_zero, List.set_cons_succ])
  refine wl_give rfl (g_extract _ #[.pointer none, .int .i64 (1)] 0 (.pointer none) rfl rfl ?_)
  (try simp only [Act.put, List.setIfInBounds_toArray, List.set_cons_zero, List.set_cons_succ])
  refine wl_give rfl (g_extract _ #[.pointer none, .int .i64 (1)] 1 (.int .i64 (1)) rfl rfl ?_)
  (try simp only [Act.put, List.setIfInBounds_toArray, List.set_cons_zero, List.set_cons_succ])
  refine wl_give rfl (g_assign _ (.pointer none) rfl ?_)
  (try simp only [Act.put, List.setIfInBounds_toArray, List.set_cons_zero, List.set_cons_succ])
  refine wl_give rfl (g_assign _ (.int .i64 (1)) rfl ?_)
  (try simp only [Act.put, List.setIfInBounds_toArray, List.set_cons_zero, List.set_cons_succ])
  refine wl_nil ?_
  refine hK6 _ _ ?_
  (try clear hK6 K6)
  refine wp_seq_k (fun K8 hK8 => ?_)
  refine wp_seq_k (fun K9 hK9 => ?_)
  refine wl_region ?_
  refine wl_give rfl (g_move _ (.int .i64 (n)) rfl ?_)
  (try simp only [Act.put, List.setIfInBounds_toArray, List.set_cons_zero, List.set_cons_succ])
  refine wl_give rfl (g_ilss 3 _ _ .i64 (n) (1) false rfl rfl (decide_eq_false h1) ?_)
  (try simp only [Act.put, List.setIfInBounds_toArray, List.set_cons_zero, List.set_cons_succ])
  refine wl_give rfl (g_move _ (.bool false) rfl ?_)
  (try simp only [Act.put, List.setIfInBounds_toArray, List.set_cons_zero, List.set_cons_succ])
  refine wl_give rfl (g_move _ (.int .i64 (n)) rfl ?_)
  (try simp only [Act.put, List.setIfInBounds_toArray, List.set_cons_zero, List.set_cons_succ])
  refine wl_give rfl (g_igtr 3 _ _ .i64 (n) (1024) true rfl rfl (decide_eq_true h2) ?_)
  (try simp only [Act.put, List.setIfInBounds_toArray, List.set_cons_zero, List.set_cons_succ])
  refine wl_give rfl (g_pickf _ _ _ (.bool true) rfl rfl ?_)
  (try simp only [Act.put, List.setIfInBounds_toArray, List.set_cons_zero, List.set_cons_succ])
  refine wl_nil ?_
  refine hK9 _ _ ?_
  (try clear hK9 K9)
  refine wp_cond_true rfl ?_
  refine wp_seq_k (fun K10 hK10 => ?_)
  refine wl_region ?_
  refine wl_give rfl (g_move _ (.pointer none) rfl ?_)
  (try simp only [Act.put, List.setIfInBounds_toArray, List.set_cons_zero, List.set_cons_succ])
  refine wl_give rfl (g_peq _ (none) true rfl rfl ?_)
  (try simp only [Act.put, List.setIfInBounds_toArray, List.set_cons_zero, List.set_cons_succ])
  refine wl_give rfl (g_move _ (.bool true) rfl ?_)
  (try simp only [Act.put, List.setIfInBounds_toArray, List.set_cons_zero, List.set_cons_succ])
  refine wl_give rfl (g_move _ (.int .i64 (1)) rfl ?_)
  (try simp only [Act.put, List.setIfInBounds_toArray, List.set_cons_zero, List.set_cons_succ])
  refine wl_give rfl (g_ieq 27 _ _ .i64 (1) (1) true rfl rfl (by decide) ?_)
  (try simp only [Act.put, List.setIfInBounds_toArray, List.set_cons_zero, List.set_cons_succ])
  refine wl_give rfl (g_pickt _ _ _ (.bool true) rfl rfl ?_)
  (try simp only [Act.put, List.setIfInBounds_toArray, List.set_cons_zero, List.set_cons_succ])
  refine wl_give rfl (g_assign _ (.bool true) rfl ?_)
  (try simp only [Act.put, List.setIfInBounds_toArray, List.set_cons_zero, List.set_cons_succ])
  refine wl_nil ?_
  refine hK10 _ _ ?_
  (try clear hK10 K10)
  refine wp_ret ?_
  go_ret
  exact ⟨rfl, hM.below⟩
set_option maxHeartbeats 4000000 in
theorem walk_far (s : Ky) (ao : Option Addr) (c cap : Nat) (w : World) (hT : Tabs w) (k : Nat) (L : Ky) (h1 : 1 ≤ k) (h2 : k ≤ 1024) (hL : Shut (tg s chainW = L)) (ek1 : Shut (IntKind.i64.wrap (((k : Nat) : Int) + 1) = (k : Int) + 1)) (hk4 : (40 : Int) < ((k : Nat) : Int)) : Calls Tryd.prog 3 #[.agg (kc s).toArray, .int .i64 ((k : Nat) : Int), .slice ao c cap] w fun e w' => e = .returned (.bool true) ∧ Below w.heap.size w w' := by
  have hM := Ms.refl w
  go_enter Tryd.func3, Tryd.ntmps3
  refine wp_seq_k (fun K1 hK1 => ?_)
  refine wl_region ?_
  refine wl_give rfl (g_box 23 _ (kc (s)) rfl ?_)
  intro w2 t_ b_
  replace hM : Ms w w2 [blk (w.heap.size) (kc (s)) 23] := hM.new t_ b_
  clear t_ b_
  (try simp only [Act.put, List.setIfInBounds_toArray, List.set_cons_zero, List.set_cons_succ])
  refine wl_give rfl (g_assign _ (.bool false) rfl ?_)
  (try simp only [Act.put, List.setIfInBounds_toArray, List.set_cons_zero, List.set_cons_succ])
  refine wl_nil ?_
  refine hK1 _ _ ?_
  (try clear hK1 K1)
  refine wp_seq_k (fun K3 hK3 => ?_)
  refine wp_seq_k (fun K4 hK4 => ?_)
  refine wl_region ?_
  refine wl_give rfl (g_call 9 _ _ [] (kf9 _ _) rfl ((awake_any w2 (hM.tabs hT)).mono ?_))
  rintro e w5 ⟨rfl, t_⟩
  refine ⟨_, rfl, ?_⟩
  replace hM := hM.call t_
  clear t_
  (try simp only [Act.put, List.setIfInBounds_toArray, List.set_cons_zero, List.set_cons_succ])
  refine wl_give rfl (g_unot 4 _ true rfl ?_)
  (try simp only [Act.put, List.setIfInBounds_toArray, List.set_cons_zero, List.set_cons_succ])
  refine wl_nil ?_
  refine hK4 _ _ ?_
  (try clear hK4 K4)
  refine wp_cond_false rfl ?_
  refine wp_skip ?_
  refine hK3 _ _ ?_
  (try clear hK3 K3)
  refine wp_seq_k (fun K6 hK6 => ?_)
  refine wl_region ?_
  refine wl_give rfl (g_load_all 23 _ (w.heap.size) (kc (s)) 23 _ rfl (hM.get 0 rfl) Tryd.underlying23 rfl (szK _) ?_)
  (try simp only [Act.put, List.setIfInBounds_toArray, List.set_cons_zero, List.set_cons_succ])
  refine wl_give rfl (g_move _ (.int .i64 (((k : Nat) : Int))) rfl ?_)
  (try simp only [Act.put, List.setIfInBounds_toArray, List.set_cons_zero, List.set_cons_succ])
  refine wl_give rfl (g_call 10 _ _ [.agg (kc (s)).toArray, .int .i64 (((k : Nat) : Int))] (kf10 _ _) rfl ((wnew_any s (k) L w w5 _ hM hT h1 h2 hL).mono ?_))
  rintro e w7 ⟨p8, rfl, h_⟩
  refine ⟨_, rfl, ?_⟩
  replace hM : Ms w w7 [wk p8 (k) L (0) 1, blk (w.heap.size) (kc (s)) 23] := h_
  clear h_
  (try simp only [Act.put, List.setIfInBounds_toArray, List.set_cons_zero, List.set_cons_succ])
  refine wl_give rfl (g_move _ (.tuple #[.pointer (some ⟨p8, 0, none⟩), .int .i64 (0)]) rfl ?_)
  (try simp only [Act.put, List.setIfInBounds_toArray, List.set_cons_zero, List.set_cons_succ])
  refine wl_give rfl (g_extract _ #[.pointer (some ⟨p8, 0, none⟩), .int .i64 (0)] 0 (.pointer (some ⟨p8, 0, none⟩)) rfl rfl ?_)
  (try simp only [Act.put, List.setIfInBounds_toArray, List.set_cons_zero, List.set_cons_succ])
  refine wl_give rfl (g_extract _ #[.pointer (some ⟨p8, 0, none⟩), .int .i64 (0)] 1 (.int .i64 (0)) rfl rfl ?_)
  (try simp only [Act.put, List.setIfInBounds_toArray, List.set_cons_zero, List.set_cons_succ])
  refine wl_give rfl (g_assign _ (.pointer (some ⟨p8, 0, none⟩)) rfl ?_)
  (try simp only [Act.put, List.setIfInBounds_toArray, List.set_cons_zero, List.set_cons_succ])
  refine wl_give rfl (g_assign _ (.int .i64 (0)) rfl ?_)
  (try simp only [Act.put, List.setIfInBounds_toArray, List.set_cons_zero, List.set_cons_succ])
  refine wl_nil ?_
  refine hK6 _ _ ?_
  (try clear hK6 K6)
  refine wp_seq_k (fun K9 hK9 => ?_)
  refine wp_seq_k (fun K10 hK10 => ?_)
  refine wl_region ?_
  refine wl_give rfl (g_move _ (.int .i64 (((k : Nat) : Int))) rfl ?_)
  (try simp only [Act.put, List.setIfInBounds_toArray, List.set_cons_zero, List.set_cons_succ])
  refine wl_give rfl (g_ilss 3 _ _ .i64 (((k : Nat) : Int)) (1) false rfl rfl (decide_eq_false (by omega)) ?_)
  (try simp only [Act.put, List.setIfInBounds_toArray, List.set_cons_zero, List.set_cons_succ])
  refine wl_give rfl (g_move _ (.bool false) rfl ?_)
  (try simp only [Act.put, List.setIfInBounds_toArray, List.set_cons_zero, List.set_cons_succ])
  refine wl_give rfl (g_move _ (.int .i64 (((k : Nat) : Int))) rfl ?_)
  (try simp only [Act.put, List.setIfInBounds_toArray, List.set_cons_zero, List.set_cons_succ])
  refine wl_give rfl (g_igtr 3 _ _ .i64 (((k : Nat) : Int)) (1024) false rfl rfl (decide_eq_false (by omega)) ?_)
  (try simp only [Act.put, List.setIfInBounds_toArray, List.set_cons_zero, List.set_cons_succ])
  refine wl_give rfl (g_pickf _ _ _ (.bool false) rfl rfl ?_)
  (try simp only [Act.put, List.setIfInBounds_toArray, List.set_cons_zero, List.set_cons_succ])
  refine wl_nil ?_
  refine hK10 _ _ ?_
  (try clear hK10 K10)
  refine wp_cond_false rfl ?_
  refine wp_skip ?_
  refine hK9 _ _ ?_
  (try clear hK9 K9)
  refine wp_seq_k (fun K11 hK11 => ?_)
  refine wp_seq_k (fun K12 hK12 => ?_)
  refine wl_region ?_
  refine wl_give rfl (g_move _ (.pointer (some ⟨p8, 0, none⟩)) rfl ?_)
  (try simp only [Act.put, List.setIfInBounds_toArray, List.set_cons_zero, List.set_cons_succ])
  refine wl_give rfl (g_peq _ ((some ⟨p8, 0, none⟩)) false rfl rfl ?_)
  (try simp only [Act.put, List.setIfInBounds_toArray, List.set_cons_zero, List.set_cons_succ])
  refine wl_give rfl (g_move _ (.bool false) rfl ?_)
  (try simp only [Act.put, List.setIfInBounds_toArray, List.set_cons_zero, List.set_cons_succ])
  refine wl_give rfl (g_move _ (.int .i64 (0)) rfl ?_)
  (try simp only [Act.put, List.setIfInBounds_toArray, List.set_cons_zero, List.set_cons_succ])
  refine wl_give rfl (g_ine 27 _ _ .i64 (0) (0) false rfl rfl (by decide) ?_)
  (try simp only [Act.put, List.setIfInBounds_toArray, List.set_cons_zero, List.set_cons_succ])
  refine wl_give rfl (g_pickf _ _ _ (.bool false) rfl rfl ?_)
  (try simp only [Act.put, List.setIfInBounds_toArray, List.set_cons_zero, List.set_cons_succ])
  refine wl_nil ?_
  refine hK12 _ _ ?_
  (try clear hK12 K12)
  refine wp_cond_false rfl ?_
  refine wp_skip ?_
  refine hK11 _ _ ?_
  (try clear hK11 K11)
  refine wp_seq_k (fun K13 hK13 => ?_)
  refine wp_seq_k (fun K14 hK14 => ?_)
  refine wl_region ?_
  refine wl_give rfl (g_move _ (.int .i64 (((k : Nat) : Int))) rfl ?_)
  (try simp only [Act.put, List.setIfInBounds_toArray, List.set_cons_zero, List.set_cons_succ])
  refine wl_give rfl (g_igtr 3 _ _ .i64 (((k : Nat) : Int)) (40) true rfl rfl (decide_eq_true hk4) ?_)
  (try simp only [Act.put, List.setIfInBounds_toArray, List.set_cons_zero, List.set_cons_succ])
  refine wl_nil ?_
  refine hK14 _ _ ?_
  (try clear hK14 K14)
  refine wp_cond_true rfl ?_
  refine wp_seq_k (fun K15 hK15 => ?_)
  refine wl_region ?_
  refine wl_give rfl (g_move _ (.pointer (some ⟨p8, 0, none⟩)) rfl ?_)
  (try simp only [Act.put, List.setIfInBounds_toArray, List.set_cons_zero, List.set_cons_succ])
  refine wl_give rfl (g_call 11 _ _ [.pointer (some ⟨p8, 0, none⟩)] (kf11 _ _) rfl ((wat_any hM).mono ?_))
  rintro e w16 ⟨rfl, t_⟩
  refine ⟨_, rfl, ?_⟩
  replace hM := hM.call t_
  clear t_
  (try simp only [Act.put, List.setIfInBounds_toArray, List.set_cons_zero, List.set_cons_succ])
  refine wl_give rfl (g_ieq 3 _ _ .i64 (((0 : Nat) : Int)) (0) true rfl rfl (decide_eq_true rfl) ?_)
  (try simp only [Act.put, List.setIfInBounds_toArray, List.set_cons_zero, List.set_cons_succ])
  refine wl_give rfl (g_move _ (.bool true) rfl ?_)
  (try simp only [Act.put, List.setIfInBounds_toArray, List.set_cons_zero, List.set_cons_succ])
  refine wl_give rfl (g_move _ (.pointer (some ⟨p8, 0, none⟩)) rfl ?_)
  (try simp only [Act.put, List.setIfInBounds_toArray, List.set_cons_zero, List.set_cons_succ])
  refine wl_give rfl (g_call 12 _ _ [.pointer (some ⟨p8, 0, none⟩)] (kf12 _ _) rfl ((wleft_any hM ((k : Int) + 1) ⟨by omega⟩).mono ?_))
  rintro e w17 ⟨rfl, t_⟩
  refine ⟨_, rfl, ?_⟩
  replace hM := hM.call t_
  clear t_
  (try simp only [Act.put, List.setIfInBounds_toArray, List.set_cons_zero, List.set_cons_succ])
  refine wl_give rfl (g_move _ (.int .i64 (((k : Nat) : Int))) rfl ?_)
  (try simp only [Act.put, List.setIfInBounds_toArray, List.set_cons_zero, List.set_cons_succ])
  refine wl_give rfl (g_ia 3 _ _ .i64 (((k : Nat) : Int)) (1) ((k : Int) + 1) rfl rfl ek1.out ?_)
  (try simp only [Act.put, List.setIfInBounds_toArray, List.set_cons_zero, List.set_cons_succ])
  refine wl_give rfl (g_ieq 3 _ _ .i64 ((k : Int) + 1) ((k : Int) + 1) true rfl rfl (decide_eq_true rfl) ?_)
  (try simp only [Act.put, List.setIfInBounds_toArray, List.set_cons_zero, List.set_cons_succ])
  refine wl_give rfl (g_pickt _ _ _ (.bool true) rfl rfl ?_)
  (try simp only [Act.put, List.setIfInBounds_toArray, List.set_cons_zero, List.set_cons_succ])
  refine wl_give rfl (g_move _ (.bool true) rfl ?_)
  (try simp only [Act.put, List.setIfInBounds_toArray, List.set_cons_zero, List.set_cons_succ])
  refine wl_give rfl (g_move _ (.pointer (some ⟨p8, 0, none⟩)) rfl ?_)
  (try simp only [Act.put, List.setIfInBounds_toArray, List.set_cons_zero, List.set_cons_succ])
  refine wl_give rfl (g_call 13 _ _ [.pointer (some ⟨p8, 0, none⟩)] (kf13 _ _) rfl ((wminds_any hM).mono ?_))
  rintro e w18 ⟨rfl, t_⟩
  refine ⟨_, rfl, ?_⟩
  replace hM := hM.call t_
  clear t_
  (try simp only [Act.put, List.setIfInBounds_toArray, List.set_cons_zero, List.set_cons_succ])
  refine wl_give rfl (g_move _ (.int .i64 (((k : Nat) : Int))) rfl ?_)
  (try simp only [Act.put, List.setIfInBounds_toArray, List.set_cons_zero, List.set_cons_succ])
  refine wl_give rfl (g_call 14 _ _ [.int .i64 (((k : Nat) : Int))] (kf14 _ _) rfl ((most_any k h1 h2 w18).mono ?_))
  rintro e w19 ⟨rfl, t_⟩
  refine ⟨_, rfl, ?_⟩
  replace hM := hM.call t_
  clear t_
  (try simp only [Act.put, List.setIfInBounds_toArray, List.set_cons_zero, List.set_cons_succ])
  refine wl_give rfl (g_ileq 3 _ _ .i64 (((1 : Nat) : Int)) (((mo k : Nat) : Int)) true rfl rfl (decide_eq_true (by have := wk_few hM; omega)) ?_)
  (try simp only [Act.put, List.setIfInBounds_toArray, List.set_cons_zero, List.set_cons_succ])
  refine wl_give rfl (g_pickt _ _ _ (.bool true) rfl rfl ?_)
  (try simp only [Act.put, List.setIfInBounds_toArray, List.set_cons_zero, List.set_cons_succ])
  refine wl_give rfl (g_assign _ (.bool true) rfl ?_)
  (try simp only [Act.put, List.setIfInBounds_toArray, List.set_cons_zero, List.set_cons_succ])
  refine wl_nil ?_
  refine hK15 _ _ ?_
  (try clear hK15 K15)
  refine wp_ret ?_
  go_ret
  exact ⟨rfl, hM.below⟩
set_option maxHeartbeats 4000000 in
theorem walk_near (s : Ky) (ao : Option Addr) (c cap : Nat) (w : World) (hT : Tabs w) (is : Nat → Int) (hbs : LV w ao c (fun j => .int .i64 (is j))) (k : Nat) (L : Ky) (h1 : 1 ≤ k) (h2 : k ≤ 1024) (hL : Shut (tg s chainW = L)) (ek1 : Shut (IntKind.i64.wrap (((k : Nat) : Int) + 1) = (k : Int) + 1)) (hk4 : ¬ (40 : Int) < ((k : Nat) : Int)) : Calls Tryd.prog 3 #[.agg (kc s).toArray, .int .i64 ((k : Nat) : Int), .slice ao c cap] w fun e w' => e = .returned (.bool true) ∧ Below w.heap.size w w' := by
  have hM := Ms.refl w
  go_enter Tryd.func3, Tryd.ntmps3
  refine wp_seq_k (fun K1 hK1 => ?_)
  refine wl_region ?_
  refine wl_give rfl (g_box 23 _ (kc (s)) rfl ?_)
  intro w2 t_ b_
  replace hM : Ms w w2 [blk (w.heap.size) (kc (s)) 23] := hM.new t_ b_
  clear t_ b_
  (try simp only [Act.put, List.setIfInBounds_toArray, List.set_cons_zero, List.set_cons_succ])
  refine wl_give rfl (g_assign _ (.bool false) rfl ?_)
  (try simp only [Act.put, List.setIfInBounds_toArray, List.set_cons_zero, List.set_cons_succ])
  refine wl_nil ?_
  refine hK1 _ _ ?_
  (try clear hK1 K1)
  refine wp_seq_k (fun K3 hK3 => ?_)
  refine wp_seq_k (fun K4 hK4 => ?_)
  refine wl_region ?_
  refine wl_give rfl (g_call 9 _ _ [] (kf9 _ _) rfl ((awake_any w2 (hM.tabs hT)).mono ?_))
  rintro e w5 ⟨rfl, t_⟩
  refine ⟨_, rfl, ?_⟩
  replace hM := hM.call t_
  clear t_
  (try simp only [Act.put, List.setIfInBounds_toArray, List.set_cons_zero, List.set_cons_succ])
  refine wl_give rfl (g_unot 4 _ true rfl ?_)
  (try simp only [Act.put, List.setIfInBounds_toArray, List.set_cons_zero, List.set_cons_succ])
  refine wl_nil ?_
  refine hK4 _ _ ?_
  (try clear hK4 K4)
  refine wp_cond_false rfl ?_
  refine wp_skip ?_
  refine hK3 _ _ ?_
  (try clear hK3 K3)
  refine wp_seq_k (fun K6 hK6 => ?_)
  refine wl_region ?_
  refine wl_give rfl (g_load_all 23 _ (w.heap.size) (kc (s)) 23 _ rfl (hM.get 0 rfl) Tryd.underlying23 rfl (szK _) ?_)
  (try simp only [Act.put, List.setIfInBounds_toArray, List.set_cons_zero, List.set_cons_succ])
  refine wl_give rfl (g_move _ (.int .i64 (((k : Nat) : Int))) rfl ?_)
  (try simp only [Act.put, List.setIfInBounds_toArray, List.set_cons_zero, List.set_cons_succ])
  refine wl_give rfl (g_call 10 _ _ [.agg (kc (s)).toArray, .int .i64 (((k : Nat) : Int))] (kf10 _ _) rfl ((wnew_any s (k) L w w5 _ hM hT h1 h2 hL).mono ?_))
  rintro e w7 ⟨p8, rfl, h_⟩
  refine ⟨_, rfl, ?_⟩
  replace hM : Ms w w7 [wk p8 (k) L (0) 1, blk (w.heap.size) (kc (s)) 23] := h_
  clear h_
  (try simp only [Act.put, List.setIfInBounds_toArray, List.set_cons_zero, List.set_cons_succ])
  refine wl_give rfl (g_move _ (.tuple #[.pointer (some ⟨p8, 0, none⟩), .int .i64 (0)]) rfl ?_)
  (try simp only [Act.put, List.setIfInBounds_toArray, List.set_cons_zero, List.set_cons_succ])
  refine wl_give rfl (g_extract _ #[.pointer (some ⟨p8, 0, none⟩), .int .i64 (0)] 0 (.pointer (some ⟨p8, 0, none⟩)) rfl rfl ?_)
  (try simp only [Act.put, List.setIfInBounds_toArray, List.set_cons_zero, List.set_cons_succ])
  refine wl_give rfl (g_extract _ #[.pointer (some ⟨p8, 0, none⟩), .int .i64 (0)] 1 (.int .i64 (0)) rfl rfl ?_)
  (try simp only [Act.put, List.setIfInBounds_toArray, List.set_cons_zero, List.set_cons_succ])
  refine wl_give rfl (g_assign _ (.pointer (some ⟨p8, 0, none⟩)) rfl ?_)
  (try simp only [Act.put, List.setIfInBounds_toArray, List.set_cons_zero, List.set_cons_succ])
  refine wl_give rfl (g_assign _ (.int .i64 (0)) rfl ?_)
  (try simp only [Act.put, List.setIfInBounds_toArray, List.set_cons_zero, List.set_cons_succ])
  refine wl_nil ?_
  refine hK6 _ _ ?_
  (try clear hK6 K6)
  refine wp_seq_k (fun K9 hK9 => ?_)
  refine wp_seq_k (fun K10 hK10 => ?_)
  refine wl_region ?_
  refine wl_give rfl (g_move _ (.int .i64 (((k : Nat) : Int))) rfl ?_)
  (try simp only [Act.put, List.setIfInBounds_toArray, List.set_cons_zero, List.set_cons_succ])
  refine wl_give rfl (g_ilss 3 _ _ .i64 (((k : Nat) : Int)) (1) false rfl rfl (decide_eq_false (by omega)) ?_)
  (try simp only [Act.put, List.setIfInBounds_toArray, List.set_cons_zero, List.set_cons_succ])
  refine wl_give rfl (g_move _ (.bool false) rfl ?_)
  (try simp only [Act.put, List.setIfInBounds_toArray, List.set_cons_zero, List.set_cons_succ])
  refine wl_give rfl (g_move _ (.int .i64 (((k : Nat) : Int))) rfl ?_)
  (try simp only [Act.put, List.setIfInBounds_toArray, List.set_cons_zero, List.set_cons_succ])
  refine wl_give rfl (g_igtr 3 _ _ .i64 (((k : Nat) : Int)) (1024) false rfl rfl (decide_eq_false (by omega)) ?_)
  (try simp only [Act.put, List.setIfInBounds_toArray, List.set_cons_zero, List.set_cons_succ])
  refine wl_give rfl (g_pickf _ _ _ (.bool false) rfl rfl ?_)
  (try simp only [Act.put, List.setIfInBounds_toArray, List.set_cons_zero, List.set_cons_succ])
  refine wl_nil ?_
  refine hK10 _ _ ?_
  (try clear hK10 K10)
  refine wp_cond_false rfl ?_
  refine wp_skip ?_
  refine hK9 _ _ ?_
  (try clear hK9 K9)
  refine wp_seq_k (fun K11 hK11 => ?_)
  refine wp_seq_k (fun K12 hK12 => ?_)
  refine wl_region ?_
  refine wl_give rfl (g_move _ (.pointer (some ⟨p8, 0, none⟩)) rfl ?_)
  (try simp only [Act.put, List.setIfInBounds_toArray, List.set_cons_zero, List.set_cons_succ])
  refine wl_give rfl (g_peq _ ((some ⟨p8, 0, none⟩)) false rfl rfl ?_)
  (try simp only [Act.put, List.setIfInBounds_toArray, List.set_cons_zero, List.set_cons_succ])
  refine wl_give rfl (g_move _ (.bool false) rfl ?_)
  (try simp only [Act.put, List.setIfInBounds_toArray, List.set_cons_zero, List.set_cons_succ])
  refine wl_give rfl (g_move _ (.int .i64 (0)) rfl ?_)
  (try simp only [Act.put, List.setIfInBounds_toArray, List.set_cons_zero, List.set_cons_succ])
  refine wl_give rfl (g_ine 27 _ _ .i64 (0) (0) false rfl rfl (by decide) ?_)
  (try simp only [Act.put, List.setIfInBounds_toArray, List.set_cons_zero, List.set_cons_succ])
  refine wl_give rfl (g_pickf _ _ _ (.bool false) rfl rfl ?_)
  (try simp only [Act.put, List.setIfInBounds_toArray, List.set_cons_zero, List.set_cons_succ])
  refine wl_nil ?_
  refine hK12 _ _ ?_
  (try clear hK12 K12)
  refine wp_cond_false rfl ?_
  refine wp_skip ?_
  refine hK11 _ _ ?_
  (try clear hK11 K11)
  refine wp_seq_k (fun K13 hK13 => ?_)
  refine wp_seq_k (fun K14 hK14 => ?_)
  refine wl_region ?_
  refine wl_give rfl (g_move _ (.int .i64 (((k : Nat) : Int))) rfl ?_)
  (try simp only [Act.put, List.setIfInBounds_toArray, List.set_cons_zero, List.set_cons_succ])
  refine wl_give rfl (g_igtr 3 _ _ .i64 (((k : Nat) : Int)) (40) false rfl rfl (decide_eq_false hk4) ?_)
  (try simp only [Act.put, List.setIfInBounds_toArray, List.set_cons_zero, List.set_cons_succ])
  refine wl_nil ?_
  refine hK14 _ _ ?_
  (try clear hK14 K14)
  refine wp_cond_false rfl ?_
  refine wp_skip ?_
  refine hK13 _ _ ?_
  (try clear hK13 K13)
  refine wp_seq_k (fun K15 hK15 => ?_)
  refine wl_region ?_
  refine wl_give rfl (g_load_all 23 _ (w.heap.size) (kc (s)) 23 _ rfl (hM.get 1 rfl) Tryd.underlying23 rfl (szK _) ?_)
  (try simp only [Act.put, List.setIfInBounds_toArray, List.set_cons_zero, List.set_cons_succ])
  refine wl_give rfl (g_move _ (.int .i64 (((k : Nat) : Int))) rfl ?_)
  (try simp only [Act.put, List.setIfInBounds_toArray, List.set_cons_zero, List.set_cons_succ])
  refine wl_give rfl (g_bldR _ _ (s) (((k : Nat) : Int)) rfl rfl ?_)
  (try simp only [Act.put, List.setIfInBounds_toArray, List.set_cons_zero, List.set_cons_succ])
  refine wl_give rfl (g_box 34 _ (rc (s) (((k : Nat) : Int)) (0)) rfl ?_)
  intro w16 t_ b_
  replace hM : Ms w w16 [blk (w7.heap.size) (rc (s) (((k : Nat) : Int)) (0)) 34, wk p8 (k) L (0) 1, blk (w.heap.size) (kc (s)) 23] := hM.new t_ b_
  clear t_ b_
  (try simp only [Act.put, List.setIfInBounds_toArray, List.set_cons_zero, List.set_cons_succ])
  refine wl_give rfl (g_assign _ (.pointer (some ⟨w7.heap.size, 0, none⟩)) rfl ?_)
  (try simp only [Act.put, List.setIfInBounds_toArray, List.set_cons_zero, List.set_cons_succ])
  refine wl_nil ?_
  refine hK15 _ _ ?_
  (try clear hK15 K15)
  refine wp_seq_k (fun K17 hK17 => ?_)
  refine wp_seq_k (fun K18 hK18 => ?_)
  refine wl_region ?_
  refine wl_give rfl (g_assign _ (.int .i64 (0)) rfl ?_)
  (try simp only [Act.put, List.setIfInBounds_toArray, List.set_cons_zero, List.set_cons_succ])
  refine wl_nil ?_
  refine hK18 _ _ ?_
  (try clear hK18 K18)
  refine wp_block ?_
  go_loopw [10] (fun v wr => ∃ i a m : Nat, i ≤ 60 ∧ v = .int .i64 ((i : Nat) : Int) ∧ Ms w wr [blk (w7.heap.size) (rc (s) (((k : Nat) : Int)) (((a : Nat) : Int))) 34, wk p8 (k) L (a) m, blk (w.heap.size) (kc (s)) 23]) (fun v _ => (60 - intOf v).toNat)
  case atStart => exact ⟨0, 0, _, by omega, rfl, (((hM.up 2 rfl).up 2 rfl).up 2 rfl)⟩
  case round =>
    clear hM
    obtain ⟨i, a, m, hi60, rfl, hM⟩ := hrel
    have ei : Shut (IntKind.i64.wrap (((i : Nat) : Int) + 1) = ((i + 1 : Nat) : Int)) := ⟨by rw [wrap_id _ (by omega) (by omega)]; omega⟩
    by_cases hic : ((i : Nat) : Int) < ((c : Nat) : Int)
    · by_cases hi6 : ((i : Nat) : Int) < 60
      · obtain ⟨bb, oo, rfl, _⟩ := (hbs.on hM) i (by omega)
        obtain ⟨t, ht⟩ : ∃ t, Shut (is i = t) := ⟨_, ⟨rfl⟩⟩
        have hcell : ∀ {u : World} {R : List HP}, Ms w u R → u.cell? ⟨bb, oo + i, none⟩ = some (.int .i64 t) := fun hM => by rw [← ht.out]; exact (hbs.on hM).at (by omega)
        have ha0 := wk_few (hM.up 1 rfl)
        by_cases hneg : t < 0
        · obtain ⟨⟨⟨X, E⟩, a'⟩, hX0⟩ : ∃ r, nx k L a = r := ⟨_, rfl⟩
          have ha2 : a' ≤ k + 1 := nx_le hX0 ha0.2.2.1
          obtain ⟨d, hd⟩ : ∃ d : Int, Shut ((k : Int) + 1 - a' = d) := ⟨_, ⟨rfl⟩⟩
          have ed : Shut (IntKind.i64.wrap ((k : Int) + 1 - ((a' : Nat) : Int)) = d) := ⟨by rw [wrap_id _ (by omega) (by omega)]; exact hd.out⟩
          have hX : Shut (nx k L a = ((X, E), a')) := ⟨hX0⟩
          clear hX0
          refine wp_seq_k (fun K19 hK19 => ?_)
          refine wp_seq_k (fun K20 hK20 => ?_)
          refine wl_region ?_
          refine wl_give rfl (g_move _ (.int .i64 (((i : Nat) : Int))) rfl ?_)
          (try simp only [Act.put, List.setIfInBounds_toArray, List.set_cons_zero, List.set_cons_succ])
          refine wl_give rfl (g_move _ (.slice (some ⟨bb, oo, none⟩) (c) (cap)) rfl ?_)
          (try simp only [Act.put, List.setIfInBounds_toArray, List.set_cons_zero, List.set_cons_succ])
          refine wl_give rfl (g_len _ 24 3 (some ⟨bb, oo, none⟩) c cap (((c : Nat) : Int)) Tryd.underlying24 rfl rfl ?_)
          (try simp only [Act.put, List.setIfInBounds_toArray, List.set_cons_zero, List.set_cons_succ])
          refine wl_give rfl (g_ilss 3 _ _ .i64 (((i : Nat) : Int)) (((c : Nat) : Int)) true rfl rfl (decide_eq_true hic) ?_)
          (try simp only [Act.put, List.setIfInBounds_toArray, List.set_cons_zero, List.set_cons_succ])
          refine wl_give rfl (g_move _ (.bool true) rfl ?_)
          (try simp only [Act.put, List.setIfInBounds_toArray, List.set_cons_zero, List.set_cons_succ])
          refine wl_give rfl (g_move _ (.int .i64 (((i : Nat) : Int))) rfl ?_)
          (try simp only [Act.put, List.setIfInBounds_toArray, List.set_cons_zero, List.set_cons_succ])
          refine wl_give rfl (g_ilss 3 _ _ .i64 (((i : Nat) : Int)) (60) true rfl rfl (decide_eq_true hi6) ?_)
          (try simp only [Act.put, List.setIfInBounds_toArray, List.set_cons_zero, List.set_cons_succ])
          refine wl_give rfl (g_pickt _ _ _ (.bool true) rfl rfl ?_)
          (try simp only [Act.put, List.setIfInBounds_toArray, List.set_cons_zero, List.set_cons_succ])
          refine wl_nil ?_
          refine hK20 _ _ ?_
          (try clear hK20 K20)
          refine wp_cond_true rfl ?_
          refine wp_skip ?_
          refine hK19 _ _ ?_
          (try clear hK19 K19)
          refine wp_seq_k (fun K21 hK21 => ?_)
          refine wp_block ?_
          refine wp_seq_k (fun K22 hK22 => ?_)
          refine wp_seq_k (fun K23 hK23 => ?_)
          refine wl_region ?_
          refine wl_give rfl (g_move _ (.slice (some ⟨bb, oo, none⟩) (c) (cap)) rfl ?_)
          (try simp only [Act.put, List.setIfInBounds_toArray, List.set_cons_zero, List.set_cons_succ])
          refine wl_give rfl (g_move _ (.int .i64 (((i : Nat) : Int))) rfl ?_)
          (try simp only [Act.put, List.setIfInBounds_toArray, List.set_cons_zero, List.set_cons_succ])
          refine wl_give rfl (g_ix _ _ 24 3 1 Tryd.underlying24 szof3 bb oo c cap i (oo + i) _ rfl rfl rfl (by omega) (by omega) ?_)
          (try simp only [Act.put, List.setIfInBounds_toArray, List.set_cons_zero, List.set_cons_succ])
          refine wl_give rfl (g_ld1 3 _ bb (oo + i) _ rfl (ld3 _ _ _ _ (hcell hM)) ?_)
          (try simp only [Act.put, List.setIfInBounds_toArray, List.set_cons_zero, List.set_cons_succ])
          refine wl_give rfl (g_ilss 3 _ _ .i64 (t) (0) true rfl rfl (decide_eq_true hneg) ?_)
          (try simp only [Act.put, List.setIfInBounds_toArray, List.set_cons_zero, List.set_cons_succ])
          refine wl_nil ?_
          refine hK23 _ _ ?_
          (try clear hK23 K23)
          refine wp_cond_true rfl ?_
          refine wp_seq_k (fun K24 hK24 => ?_)
          refine wl_region ?_
          refine wl_give rfl (g_move _ (.pointer (some ⟨p8, 0, none⟩)) rfl ?_)
          (try simp only [Act.put, List.setIfInBounds_toArray, List.set_cons_zero, List.set_cons_succ])
          refine wl_give rfl (g_call 15 _ _ [.pointer (some ⟨p8, 0, none⟩)] (kf15 _ _) rfl ((pnext_any (show Ms w wr [wk p8 (k) L (a) m, blk (w7.heap.size) (rc (s) (((k : Nat) : Int)) (((a : Nat) : Int))) 34, blk (w.heap.size) (kc (s)) 23] from (hM.up 1 rfl)) hT X E (a') hX).mono ?_))
          rintro e w25 ⟨m26, rfl, h_⟩
          refine ⟨_, rfl, ?_⟩
          replace hM : Ms w w25 [wk p8 (k) L (a') m26, blk (w7.heap.size) (rc (s) (((k : Nat) : Int)) (((a : Nat) : Int))) 34, blk (w.heap.size) (kc (s)) 23] := h_
          clear h_
          (try simp only [Act.put, List.setIfInBounds_toArray, List.set_cons_zero, List.set_cons_succ])
          refine wl_give rfl (g_move _ (.tuple #[.agg (kc (X)).toArray, .int .i64 (E)]) rfl ?_)
          (try simp only [Act.put, List.setIfInBounds_toArray, List.set_cons_zero, List.set_cons_succ])
          refine wl_give rfl (g_extract _ #[.agg (kc (X)).toArray, .int .i64 (E)] 0 (.agg (kc (X)).toArray) rfl rfl ?_)
          (try simp only [Act.put, List.setIfInBounds_toArray, List.set_cons_zero, List.set_cons_succ])
          refine wl_give rfl (g_extract _ #[.agg (kc (X)).toArray, .int .i64 (E)] 1 (.int .i64 (E)) rfl rfl ?_)
          (try simp only [Act.put, List.setIfInBounds_toArray, List.set_cons_zero, List.set_cons_succ])
          refine wl_give rfl (g_alloc 23 (kc (zk)) zeroK ?_)
          intro w27 t_ b_
          replace hM : Ms w w27 [blk (w25.heap.size) (kc (zk)) 23, wk p8 (k) L (a') m26, blk (w7.heap.size) (rc (s) (((k : Nat) : Int)) (((a : Nat) : Int))) 34, blk (w.heap.size) (kc (s)) 23] := hM.new t_ b_
          clear t_ b_
          (try simp only [Act.put, List.setIfInBounds_toArray, List.set_cons_zero, List.set_cons_succ])
          refine wl_give rfl (g_store_all 23 _ _ (w25.heap.size) (kc (X)) _ 23 rfl rfl (hM.get 0 rfl) (szK _) (kk_len _ _) (one_kc _) ?_)
          intro w28 t_ b_
          replace hM : Ms w w28 [blk (w25.heap.size) (kc (X)) 23, wk p8 (k) L (a') m26, blk (w7.heap.size) (rc (s) (((k : Nat) : Int)) (((a : Nat) : Int))) 34, blk (w.heap.size) (kc (s)) 23] := hM.put 0 rfl t_ b_
          clear t_ b_
          (try simp only [Act.put, List.setIfInBounds_toArray, List.set_cons_zero, List.set_cons_succ])
          refine wl_give rfl (g_assign _ (.int .i64 (E)) rfl ?_)
          (try simp only [Act.put, List.setIfInBounds_toArray, List.set_cons_zero, List.set_cons_succ])
          refine wl_nil ?_
          refine hK24 _ _ ?_
          (try clear hK24 K24)
          refine wp_seq_k (fun K29 hK29 => ?_)
          refine wl_region ?_
          refine wl_give rfl (g_move _ (.pointer (some ⟨w7.heap.size, 0, none⟩)) rfl ?_)
          (try simp only [Act.put, List.setIfInBounds_toArray, List.set_cons_zero, List.set_cons_succ])
          refine wl_give rfl (g_call 16 _ _ [.pointer (some ⟨w7.heap.size, 0, none⟩)] (kf16 _ _) rfl ((rnext_any (show Ms w w28 [blk (w7.heap.size) (rc (s) (((k : Nat) : Int)) (((a : Nat) : Int))) 34, blk (w25.heap.size) (kc (X)) 23, wk p8 (k) L (a') m26, blk (w.heap.size) (kc (s)) 23] from (hM.up 2 rfl)) L hL h1 h2 X E a' hX).mono ?_))
          rintro e w30 ⟨rfl, h_⟩
          refine ⟨_, rfl, ?_⟩
          replace hM : Ms w w30 [blk (w7.heap.size) (rc (s) (((k : Nat) : Int)) (((a' : Nat) : Int))) 34, blk (w25.heap.size) (kc (X)) 23, wk p8 (k) L (a') m26, blk (w.heap.size) (kc (s)) 23] := h_
          clear h_
          (try simp only [Act.put, List.setIfInBounds_toArray, List.set_cons_zero, List.set_cons_succ])
          refine wl_give rfl (g_move _ (.tuple #[.agg (kc (X)).toArray, .int .i64 (E)]) rfl ?_)
          (try simp only [Act.put, List.setIfInBounds_toArray, List.set_cons_zero, List.set_cons_succ])
          refine wl_give rfl (g_extract _ #[.agg (kc (X)).toArray, .int .i64 (E)] 0 (.agg (kc (X)).toArray) rfl rfl ?_)
          (try simp only [Act.put, List.setIfInBounds_toArray, List.set_cons_zero, List.set_cons_succ])
          refine wl_give rfl (g_extract _ #[.agg (kc (X)).toArray, .int .i64 (E)] 1 (.int .i64 (E)) rfl rfl ?_)
          (try simp only [Act.put, List.setIfInBounds_toArray, List.set_cons_zero, List.set_cons_succ])
          refine wl_give rfl (g_alloc 23 (kc (zk)) zeroK ?_)
          intro w31 t_ b_
          replace hM : Ms w w31 [blk (w30.heap.size) (kc (zk)) 23, blk (w7.heap.size) (rc (s) (((k : Nat) : Int)) (((a' : Nat) : Int))) 34, blk (w25.heap.size) (kc (X)) 23, wk p8 (k) L (a') m26, blk (w.heap.size) (kc (s)) 23] := hM.new t_ b_
          clear t_ b_
          (try simp only [Act.put, List.setIfInBounds_toArray, List.set_cons_zero, List.set_cons_succ])
          refine wl_give rfl (g_store_all 23 _ _ (w30.heap.size) (kc (X)) _ 23 rfl rfl (hM.get 0 rfl) (szK _) (kk_len _ _) (one_kc _) ?_)
          intro w32 t_ b_
          replace hM : Ms w w32 [blk (w30.heap.size) (kc (X)) 23, blk (w7.heap.size) (rc (s) (((k : Nat) : Int)) (((a' : Nat) : Int))) 34, blk (w25.heap.size) (kc (X)) 23, wk p8 (k) L (a') m26, blk (w.heap.size) (kc (s)) 23] := hM.put 0 rfl t_ b_
          clear t_ b_
          (try simp only [Act.put, List.setIfInBounds_toArray, List.set_cons_zero, List.set_cons_succ])
          refine wl_give rfl (g_assign _ (.int .i64 (E)) rfl ?_)
          (try simp only [Act.put, List.setIfInBounds_toArray, List.set_cons_zero, List.set_cons_succ])
          refine wl_nil ?_
          refine hK29 _ _ ?_
          (try clear hK29 K29)
          refine wp_seq_k (fun K33 hK33 => ?_)
          refine wl_region ?_
          refine wl_give rfl (g_load_all 23 _ (w25.heap.size) (kc (X)) 23 _ rfl (hM.get 2 rfl) Tryd.underlying23 rfl (szK _) ?_)
          (try simp only [Act.put, List.setIfInBounds_toArray, List.set_cons_zero, List.set_cons_succ])
          refine wl_give rfl (g_load_all 23 _ (w30.heap.size) (kc (X)) 23 _ rfl (hM.get 0 rfl) Tryd.underlying23 rfl (szK _) ?_)
          (try simp only [Act.put, List.setIfInBounds_toArray, List.set_cons_zero, List.set_cons_succ])
          refine wl_give rfl (g_nK _ _ (X) (X) true false rfl rfl (decide_eq_true rfl) rfl ?_)
          (try simp only [Act.put, List.setIfInBounds_toArray, List.set_cons_zero, List.set_cons_succ])
          refine wl_give rfl (g_move _ (.bool false) rfl ?_)
          (try simp only [Act.put, List.setIfInBounds_toArray, List.set_cons_zero, List.set_cons_succ])
          refine wl_give rfl (g_move _ (.int .i64 (E)) rfl ?_)
          (try simp only [Act.put, List.setIfInBounds_toArray, List.set_cons_zero, List.set_cons_succ])
          refine wl_give rfl (g_move _ (.int .i64 (E)) rfl ?_)
          (try simp only [Act.put, List.setIfInBounds_toArray, List.set_cons_zero, List.set_cons_succ])
          refine wl_give rfl (g_ine 27 _ _ .i64 (E) (E) false rfl rfl (decide_eq_false (fun h => h rfl)) ?_)
          (try simp only [Act.put, List.setIfInBounds_toArray, List.set_cons_zero, List.set_cons_succ])
          refine wl_give rfl (g_pickf _ _ _ (.bool false) rfl rfl ?_)
          (try simp only [Act.put, List.setIfInBounds_toArray, List.set_cons_zero, List.set_cons_succ])
          refine wl_nil ?_
          refine hK33 _ _ ?_
          (try clear hK33 K33)
          refine wp_cond_false rfl ?_
          refine wp_skip ?_
          refine hK22 _ _ ?_
          (try clear hK22 K22)
          refine wp_seq_k (fun K34 hK34 => ?_)
          refine wp_region_fixed (by kernel_rfl) (by kernel_rfl) [.pointer (some ⟨p8, 0, none⟩), .int .i64 (((a' : Nat) : Int)), .pointer (some ⟨w7.heap.size, 0, none⟩), .pointer (some ⟨w7.heap.size, 0, none⟩), .pointer (some ⟨w7.heap.size, 33, none⟩), .int .i64 (((a' : Nat) : Int)), .bool false, .bool false, .pointer (some ⟨p8, 0, none⟩), .int .i64 (d), .int .i64 (((k : Nat) : Int)), .int .i64 ((k : Int) + 1), .pointer (some ⟨w7.heap.size, 0, none⟩), .pointer (some ⟨w7.heap.size, 0, none⟩), .pointer (some ⟨w7.heap.size, 33, none⟩), .int .i64 (((a' : Nat) : Int)), .int .i64 (d), .bool false, .bool false, .bool false, .pointer (some ⟨p8, 0, none⟩), .int .i64 (((m26 : Nat) : Int)), .bool false, .bool false, .bool false, .pointer (some ⟨p8, 0, none⟩), .int .i64 (((m26 : Nat) : Int)), .int .i64 (((k : Nat) : Int)), .int .i64 (((mo k : Nat) : Int)), .bool false, .bool false] (by rfl) (fun wx => Ms w wx [blk (w30.heap.size) (kc (X)) 23, blk (w7.heap.size) (rc (s) (((k : Nat) : Int)) (((a' : Nat) : Int))) 34, blk (w25.heap.size) (kc (X)) 23, wk p8 (k) L (a') m26, blk (w.heap.size) (kc (s)) 23]) hM.drew ?_ ?_
          · simp only [fullL, Act.put, List.setIfInBounds_toArray, List.set_cons_succ, List.set_cons_zero]
            refine ⟨?_, ?_, ?_, ?_, ?_, ?_, ?_, ?_, ?_, ?_, ?_, ?_, ?_, ?_, ?_, ?_, ?_, ?_, ?_, ?_, ?_, ?_, ?_, ?_, ?_, ?_, ?_, ?_, ?_, ?_, ?_, trivial⟩
            · exact fun wx hM => gw rfl (g_move _ (.pointer (some ⟨p8, 0, none⟩)) rfl ⟨rfl, hM⟩)
            · exact fun wx hM => gw rfl (g_call 11 _ _ [.pointer (some ⟨p8, 0, none⟩)] (kf11 _ _) rfl ((wat_any (show Ms w wx [wk p8 (k) L (a') m26, blk (w30.heap.size) (kc (X)) 23, blk (w7.heap.size) (rc (s) (((k : Nat) : Int)) (((a' : Nat) : Int))) 34, blk (w25.heap.size) (kc (X)) 23, blk (w.heap.size) (kc (s)) 23] from (hM.up 3 rfl))).mono (fun _ _ ⟨h1_, h2_⟩ => ⟨_, h1_, rfl, hM.call h2_⟩)))
            · exact fun wx hM => gw rfl (g_move _ (.pointer (some ⟨w7.heap.size, 0, none⟩)) rfl ⟨rfl, hM⟩)
            · exact fun wx hM => gw rfl (g_nil _ ⟨w7.heap.size, 0, none⟩ rfl ⟨rfl, hM⟩)
            · exact fun wx hM => gw rfl (g_fa 34 _ (w7.heap.size) (0) (33) 2 rfl (faR2 _ _) ⟨rfl, hM⟩)
            · exact fun wx hM => gw rfl (g_ld1 3 _ (w7.heap.size) 33 _ rfl (ld3 _ _ _ _ ((hM.get 1 rfl).cell 33 _ (rc_a _ _ _))) ⟨rfl, hM⟩)
            · exact fun wx hM => gw rfl (g_ine 3 _ _ .i64 (((a' : Nat) : Int)) (((a' : Nat) : Int)) false rfl rfl (decide_eq_false (fun h => h rfl)) ⟨rfl, hM⟩)
            · exact fun wx hM => gw rfl (g_move _ (.bool false) rfl ⟨rfl, hM⟩)
            · exact fun wx hM => gw rfl (g_move _ (.pointer (some ⟨p8, 0, none⟩)) rfl ⟨rfl, hM⟩)
            · exact fun wx hM => gw rfl (g_call 12 _ _ [.pointer (some ⟨p8, 0, none⟩)] (kf12 _ _) rfl ((wleft_any (show Ms w wx [wk p8 (k) L (a') m26, blk (w30.heap.size) (kc (X)) 23, blk (w7.heap.size) (rc (s) (((k : Nat) : Int)) (((a' : Nat) : Int))) 34, blk (w25.heap.size) (kc (X)) 23, blk (w.heap.size) (kc (s)) 23] from (hM.up 3 rfl)) (d) ⟨hd.out⟩).mono (fun _ _ ⟨h1_, h2_⟩ => ⟨_, h1_, rfl, hM.call h2_⟩)))
            · exact fun wx hM => gw rfl (g_move _ (.int .i64 (((k : Nat) : Int))) rfl ⟨rfl, hM⟩)
            · exact fun wx hM => gw rfl (g_ia 3 _ _ .i64 (((k : Nat) : Int)) (1) ((k : Int) + 1) rfl rfl ek1.out ⟨rfl, hM⟩)
            · exact fun wx hM => gw rfl (g_move _ (.pointer (some ⟨w7.heap.size, 0, none⟩)) rfl ⟨rfl, hM⟩)
            · exact fun wx hM => gw rfl (g_nil _ ⟨w7.heap.size, 0, none⟩ rfl ⟨rfl, hM⟩)
            · exact fun wx hM => gw rfl (g_fa 34 _ (w7.heap.size) (0) (33) 2 rfl (faR2 _ _) ⟨rfl, hM⟩)
            · exact fun wx hM => gw rfl (g_ld1 3 _ (w7.heap.size) 33 _ rfl (ld3 _ _ _ _ ((hM.get 1 rfl).cell 33 _ (rc_a _ _ _))) ⟨rfl, hM⟩)
            · exact fun wx hM => gw rfl (g_isub 3 _ _ .i64 ((k : Int) + 1) (((a' : Nat) : Int)) (d) rfl rfl ed.out ⟨rfl, hM⟩)
            · exact fun wx hM => gw rfl (g_ine 3 _ _ .i64 (d) (d) false rfl rfl (decide_eq_false (fun h => h rfl)) ⟨rfl, hM⟩)
            · exact fun wx hM => gw rfl (g_pickf _ _ _ (.bool false) rfl rfl ⟨rfl, hM⟩)
            · exact fun wx hM => gw rfl (g_move _ (.bool false) rfl ⟨rfl, hM⟩)
            · exact fun wx hM => gw rfl (g_move _ (.pointer (some ⟨p8, 0, none⟩)) rfl ⟨rfl, hM⟩)
            · exact fun wx hM => gw rfl (g_call 13 _ _ [.pointer (some ⟨p8, 0, none⟩)] (kf13 _ _) rfl ((wminds_any (show Ms w wx [wk p8 (k) L (a') m26, blk (w30.heap.size) (kc (X)) 23, blk (w7.heap.size) (rc (s) (((k : Nat) : Int)) (((a' : Nat) : Int))) 34, blk (w25.heap.size) (kc (X)) 23, blk (w.heap.size) (kc (s)) 23] from (hM.up 3 rfl))).mono (fun _ _ ⟨h1_, h2_⟩ => ⟨_, h1_, rfl, hM.call h2_⟩)))
            · exact fun wx hM => gw rfl (g_ilss 3 _ _ .i64 (((m26 : Nat) : Int)) (0) false rfl rfl (decide_eq_false (by omega)) ⟨rfl, hM⟩)
            · exact fun wx hM => gw rfl (g_pickf _ _ _ (.bool false) rfl rfl ⟨rfl, hM⟩)
            · exact fun wx hM => gw rfl (g_move _ (.bool false) rfl ⟨rfl, hM⟩)
            · exact fun wx hM => gw rfl (g_move _ (.pointer (some ⟨p8, 0, none⟩)) rfl ⟨rfl, hM⟩)
            · exact fun wx hM => gw rfl (g_call 13 _ _ [.pointer (some ⟨p8, 0, none⟩)] (kf13 _ _) rfl ((wminds_any (show Ms w wx [wk p8 (k) L (a') m26, blk (w30.heap.size) (kc (X)) 23, blk (w7.heap.size) (rc (s) (((k : Nat) : Int)) (((a' : Nat) : Int))) 34, blk (w25.heap.size) (kc (X)) 23, blk (w.heap.size) (kc (s)) 23] from (hM.up 3 rfl))).mono (fun _ _ ⟨h1_, h2_⟩ => ⟨_, h1_, rfl, hM.call h2_⟩)))
            · exact fun wx hM => gw rfl (g_move _ (.int .i64 (((k : Nat) : Int))) rfl ⟨rfl, hM⟩)
            · exact fun wx hM => gw rfl (g_call 14 _ _ [.int .i64 (((k : Nat) : Int))] (kf14 _ _) rfl ((most_any k h1 h2 wx).mono (fun _ _ ⟨h1_, h2_⟩ => ⟨_, h1_, rfl, hM.call h2_⟩)))
            · exact fun wx hM => gw rfl (g_igtr 3 _ _ .i64 (((m26 : Nat) : Int)) (((mo k : Nat) : Int)) false rfl rfl (decide_eq_false (by have := wk_few (show Ms w _ [wk p8 (k) L (a') m26, blk (w30.heap.size) (kc (X)) 23, blk (w7.heap.size) (rc (s) (((k : Nat) : Int)) (((a' : Nat) : Int))) 34, blk (w25.heap.size) (kc (X)) 23, blk (w.heap.size) (kc (s)) 23] from (hM.up 3 rfl)); omega)) ⟨rfl, hM⟩)
            · exact fun wx hM => gw rfl (g_pickf _ _ _ (.bool false) rfl rfl ⟨rfl, hM⟩)
          · simp only [fullL, Act.put, List.setIfInBounds_toArray, List.set_cons_succ, List.set_cons_zero]
            intro w35 hM
            refine hK34 _ _ ?_
            (try clear hK34 K34)
            refine wp_cond_false rfl ?_
            refine wp_skip ?_
            refine hK21 _ _ ?_
            (try clear hK21 K21)
            refine wl_region ?_
            refine wl_give rfl (g_move _ (.int .i64 (((i : Nat) : Int))) rfl ?_)
            (try simp only [Act.put, List.setIfInBounds_toArray, List.set_cons_zero, List.set_cons_succ])
            refine wl_give rfl (g_ia 3 _ _ .i64 (((i : Nat) : Int)) (1) (((i + 1 : Nat) : Int)) rfl rfl ei.out ?_)
            (try simp only [Act.put, List.setIfInBounds_toArray, List.set_cons_zero, List.set_cons_succ])
            refine wl_give rfl (g_assign _ (.int .i64 (((i + 1 : Nat) : Int))) rfl ?_)
            (try simp only [Act.put, List.setIfInBounds_toArray, List.set_cons_zero, List.set_cons_succ])
            refine wl_nil ?_
            have h9 : Ms w w35 [blk (w7.heap.size) (rc (s) (((k : Nat) : Int)) (((a' : Nat) : Int))) 34, wk p8 (k) L (a') m26, blk (w.heap.size) (kc (s)) 23] := (((((hM.erase 0).erase 1).up 2 rfl).up 2 rfl).up 2 rfl)
            (try simp only [Exit.then, Exit.inBlock, ↓reduceIte, Nat.reduceEqDiff])
            go_roundw
            case rel => exact ⟨i + 1, _, _, by omega, rfl, h9⟩
            case measure => simp [intOf]; omega
        · obtain ⟨⟨E, a'⟩, hX0⟩ : ∃ r, sk k a t = r := ⟨_, rfl⟩
          have ha2 : a' ≤ k + 1 := sk_le hX0 ha0.2.2.1
          obtain ⟨d, hd⟩ : ∃ d : Int, Shut ((k : Int) + 1 - a' = d) := ⟨_, ⟨rfl⟩⟩
          have ed : Shut (IntKind.i64.wrap ((k : Int) + 1 - ((a' : Nat) : Int)) = d) := ⟨by rw [wrap_id _ (by omega) (by omega)]; exact hd.out⟩
          have hX : Shut (sk k a t = (E, a')) := ⟨hX0⟩
          clear hX0
          refine wp_seq_k (fun K36 hK36 => ?_)
          refine wp_seq_k (fun K37 hK37 => ?_)
          refine wl_region ?_
          refine wl_give rfl (g_move _ (.int .i64 (((i : Nat) : Int))) rfl ?_)
          (try simp only [Act.put, List.setIfInBounds_toArray, List.set_cons_zero, List.set_cons_succ])
          refine wl_give rfl (g_move _ (.slice (some ⟨bb, oo, none⟩) (c) (cap)) rfl ?_)
          (try simp only [Act.put, List.setIfInBounds_toArray, List.set_cons_zero, List.set_cons_succ])
          refine wl_give rfl (g_len _ 24 3 (some ⟨bb, oo, none⟩) c cap (((c : Nat) : Int)) Tryd.underlying24 rfl rfl ?_)
          (try simp only [Act.put, List.setIfInBounds_toArray, List.set_cons_zero, List.set_cons_succ])
          refine wl_give rfl (g_ilss 3 _ _ .i64 (((i : Nat) : Int)) (((c : Nat) : Int)) true rfl rfl (decide_eq_true hic) ?_)
          (try simp only [Act.put, List.setIfInBounds_toArray, List.set_cons_zero, List.set_cons_succ])
          refine wl_give rfl (g_move _ (.bool true) rfl ?_)
          (try simp only [Act.put, List.setIfInBounds_toArray, List.set_cons_zero, List.set_cons_succ])
          refine wl_give rfl (g_move _ (.int .i64 (((i : Nat) : Int))) rfl ?_)
          (try simp only [Act.put, List.setIfInBounds_toArray, List.set_cons_zero, List.set_cons_succ])
          refine wl_give rfl (g_ilss 3 _ _ .i64 (((i : Nat) : Int)) (60) true rfl rfl (decide_eq_true hi6) ?_)
          (try simp only [Act.put, List.setIfInBounds_toArray, List.set_cons_zero, List.set_cons_succ])
          refine wl_give rfl (g_pickt _ _ _ (.bool true) rfl rfl ?_)
          (try simp only [Act.put, List.setIfInBounds_toArray, List.set_cons_zero, List.set_cons_succ])
          refine wl_nil ?_
          refine hK37 _ _ ?_
          (try clear hK37 K37)
          refine wp_cond_true rfl ?_
          refine wp_skip ?_
          refine hK36 _ _ ?_
          (try clear hK36 K36)
          refine wp_seq_k (fun K38 hK38 => ?_)
          refine wp_block ?_
          refine wp_seq_k (fun K39 hK39 => ?_)
          refine wp_seq_k (fun K40 hK40 => ?_)
          refine wl_region ?_
          refine wl_give rfl (g_move _ (.slice (some ⟨bb, oo, none⟩) (c) (cap)) rfl ?_)
          (try simp only [Act.put, List.setIfInBounds_toArray, List.set_cons_zero, List.set_cons_succ])
          refine wl_give rfl (g_move _ (.int .i64 (((i : Nat) : Int))) rfl ?_)
          (try simp only [Act.put, List.setIfInBounds_toArray, List.set_cons_zero, List.set_cons_succ])
          refine wl_give rfl (g_ix _ _ 24 3 1 Tryd.underlying24 szof3 bb oo c cap i (oo + i) _ rfl rfl rfl (by omega) (by omega) ?_)
          (try simp only [Act.put, List.setIfInBounds_toArray, List.set_cons_zero, List.set_cons_succ])
          refine wl_give rfl (g_ld1 3 _ bb (oo + i) _ rfl (ld3 _ _ _ _ (hcell hM)) ?_)
          (try simp only [Act.put, List.setIfInBounds_toArray, List.set_cons_zero, List.set_cons_succ])
          refine wl_give rfl (g_ilss 3 _ _ .i64 (t) (0) false rfl rfl (decide_eq_false hneg) ?_)
          (try simp only [Act.put, List.setIfInBounds_toArray, List.set_cons_zero, List.set_cons_succ])
          refine wl_nil ?_
          refine hK40 _ _ ?_
          (try clear hK40 K40)
          refine wp_cond_false rfl ?_
          refine wp_seq_k (fun K41 hK41 => ?_)
          refine wp_region_steps (by kernel_rfl) (by kernel_rfl) [5, 11] [0, 0, 0, 0, 0, 0, 0, 0, 0, 0, 0, 1, 2] [0, 2, 2, 2, 0, 1, 1, 2, 2, 2, 1, 2, 2] (by kernel_rfl) (Pm := Nat) (fun π => [.pointer (some ⟨p8, 0, none⟩), .slice (some ⟨bb, oo, none⟩) (c) (cap), .int .i64 (((i : Nat) : Int)), .pointer (some ⟨bb, oo + i, none⟩), .int .i64 (t), .int .i64 (E), .pointer (some ⟨w7.heap.size, 0, none⟩), .slice (some ⟨bb, oo, none⟩) (c) (cap), .int .i64 (((i : Nat) : Int)), .pointer (some ⟨bb, oo + i, none⟩), .int .i64 (t), .int .i64 (E), .bool false]) (fun _ => by rfl) (fun j π wx => match j with | 0 => Ms w wx [blk (w7.heap.size) (rc (s) (((k : Nat) : Int)) (((a : Nat) : Int))) 34, wk p8 (k) L (a) m, blk (w.heap.size) (kc (s)) 23] | 1 => Ms w wx [wk p8 (k) L (a') π, blk (w7.heap.size) (rc (s) (((k : Nat) : Int)) (((a : Nat) : Int))) 34, blk (w.heap.size) (kc (s)) 23] | _ => Ms w wx [blk (w7.heap.size) (rc (s) (((k : Nat) : Int)) (((a' : Nat) : Int))) 34, wk p8 (k) L (a') π, blk (w.heap.size) (kc (s)) 23]) (0) hM.drew ?_ ?_ ?_
          · intro j k o hj ho π wx hM
            rcases j with _ | _ | j
            · obtain rfl := Option.some.inj hj
              obtain rfl := Option.some.inj ho
              simp only [fullL, Act.put, List.setIfInBounds_toArray, List.set_cons_succ, List.set_cons_zero]
              replace hM : Ms w wx [blk (w7.heap.size) (rc (s) (((k : Nat) : Int)) (((a : Nat) : Int))) 34, wk p8 (k) L (a) m, blk (w.heap.size) (kc (s)) 23] := hM
              exact gw rfl (g_call 17 _ _ [.pointer (some ⟨p8, 0, none⟩), .int .i64 (t)] (kf17 _ _) rfl ((pskip_any (show Ms w wx [wk p8 (k) L (a) m, blk (w7.heap.size) (rc (s) (((k : Nat) : Int)) (((a : Nat) : Int))) 34, blk (w.heap.size) (kc (s)) 23] from (hM.up 1 rfl)) (t) E (a') hX).mono (fun e w' ⟨g_0, h1_, h2_⟩ => ⟨_, h1_, ⟨(g_0), rfl, fun i h1 h2 => by rcases i with _ | _ | _ | _ | _ | _ | _ | _ | _ | _ | _ | _ | _ | i <;> first | rfl | trivial | exact absurd rfl h2 | exact absurd h1 (by decide), h2_⟩⟩)))
            · obtain rfl := Option.some.inj hj
              obtain rfl := Option.some.inj ho
              simp only [fullL, Act.put, List.setIfInBounds_toArray, List.set_cons_succ, List.set_cons_zero]
              replace hM : Ms w wx [wk p8 (k) L (a') π, blk (w7.heap.size) (rc (s) (((k : Nat) : Int)) (((a : Nat) : Int))) 34, blk (w.heap.size) (kc (s)) 23] := hM
              exact gw rfl (g_call 18 _ _ [.pointer (some ⟨w7.heap.size, 0, none⟩), .int .i64 (t)] (kf18 _ _) rfl ((rskip_any (show Ms w wx [blk (w7.heap.size) (rc (s) (((k : Nat) : Int)) (((a : Nat) : Int))) 34, wk p8 (k) L (a') π, blk (w.heap.size) (kc (s)) 23] from (hM.up 1 rfl)) t E a' hX).mono (fun e w' ⟨h1_, h2_⟩ => ⟨_, h1_, ⟨(π), rfl, fun i h1 h2 => by rcases i with _ | _ | _ | _ | _ | _ | _ | _ | _ | _ | _ | _ | _ | i <;> first | rfl | trivial | exact absurd rfl h2 | exact absurd h1 (by decide), h2_⟩⟩)))
            · simp at hj
          · intro i o ho hi j hd hh hj π wx hM
            simp only [fullL, Act.put, List.setIfInBounds_toArray, List.set_cons_succ, List.set_cons_zero]
            rcases i with _ | _ | _ | _ | _ | _ | _ | _ | _ | _ | _ | _ | _ | i
            · obtain rfl := Option.some.inj ho
              exact gw rfl (g_move _ (.pointer (some ⟨p8, 0, none⟩)) rfl ⟨rfl, hM⟩)
            · obtain rfl := Option.some.inj ho
              exact gw rfl (g_move _ (.slice (some ⟨bb, oo, none⟩) (c) (cap)) rfl ⟨rfl, hM⟩)
            · obtain rfl := Option.some.inj ho
              exact gw rfl (g_move _ (.int .i64 (((i : Nat) : Int))) rfl ⟨rfl, hM⟩)
            · obtain rfl := Option.some.inj ho
              exact gw rfl (g_ix _ _ 24 3 1 Tryd.underlying24 szof3 bb oo c cap i (oo + i) _ rfl rfl rfl (by omega) (by omega) ⟨rfl, hM⟩)
            · obtain rfl := Option.some.inj ho
              rcases j with _ | _ | _ | j
              · replace hM : Ms w wx [blk (w7.heap.size) (rc (s) (((k : Nat) : Int)) (((a : Nat) : Int))) 34, wk p8 (k) L (a) m, blk (w.heap.size) (kc (s)) 23] := hM
                exact gw rfl (g_ld1 3 _ bb (oo + i) _ rfl (ld3 _ _ _ _ (hcell hM)) ⟨rfl, hM⟩)
              · exact absurd hh (by decide)
              · exact absurd hh (by decide)
              · exact absurd hj (by simp)
            · exact absurd (by decide) hi
            · obtain rfl := Option.some.inj ho
              exact gw rfl (g_move _ (.pointer (some ⟨w7.heap.size, 0, none⟩)) rfl ⟨rfl, hM⟩)
            · obtain rfl := Option.some.inj ho
              exact gw rfl (g_move _ (.slice (some ⟨bb, oo, none⟩) (c) (cap)) rfl ⟨rfl, hM⟩)
            · obtain rfl := Option.some.inj ho
              exact gw rfl (g_move _ (.int .i64 (((i : Nat) : Int))) rfl ⟨rfl, hM⟩)
            · obtain rfl := Option.some.inj ho
              exact gw rfl (g_ix _ _ 24 3 1 Tryd.underlying24 szof3 bb oo c cap i (oo + i) _ rfl rfl rfl (by omega) (by omega) ⟨rfl, hM⟩)
            · obtain rfl := Option.some.inj ho
              rcases j with _ | _ | _ | j
              · replace hM : Ms w wx [blk (w7.heap.size) (rc (s) (((k : Nat) : Int)) (((a : Nat) : Int))) 34, wk p8 (k) L (a) m, blk (w.heap.size) (kc (s)) 23] := hM
                exact gw rfl (g_ld1 3 _ bb (oo + i) _ rfl (ld3 _ _ _ _ (hcell hM)) ⟨rfl, hM⟩)
              · replace hM : Ms w wx [wk p8 (k) L (a') π, blk (w7.heap.size) (rc (s) (((k : Nat) : Int)) (((a : Nat) : Int))) 34, blk (w.heap.size) (kc (s)) 23] := hM
                exact gw rfl (g_ld1 3 _ bb (oo + i) _ rfl (ld3 _ _ _ _ (hcell hM)) ⟨rfl, hM⟩)
              · exact absurd hh (by decide)
              · exact absurd hj (by simp)
            · exact absurd (by decide) hi
            · obtain rfl := Option.some.inj ho
              exact gw rfl (g_ine 27 _ _ .i64 (E) (E) false rfl rfl (decide_eq_false (fun h => h rfl)) ⟨rfl, hM⟩)
            · simp at ho
          · simp only [fullL, Act.put, List.setIfInBounds_toArray, List.set_cons_succ, List.set_cons_zero]
            rintro p43 w42 hM
            replace hM : Ms w w42 [blk (w7.heap.size) (rc (s) (((k : Nat) : Int)) (((a' : Nat) : Int))) 34, wk p8 (k) L (a') p43, blk (w.heap.size) (kc (s)) 23] := hM
            refine hK41 _ _ ?_
            (try clear hK41 K41)
            refine wp_cond_false rfl ?_
            refine wp_skip ?_
            refine hK39 _ _ ?_
            (try clear hK39 K39)
            refine wp_seq_k (fun K44 hK44 => ?_)
            refine wp_region_fixed (by kernel_rfl) (by kernel_rfl) [.pointer (some ⟨p8, 0, none⟩), .int .i64 (((a' : Nat) : Int)), .pointer (some ⟨w7.heap.size, 0, none⟩), .pointer (some ⟨w7.heap.size, 0, none⟩), .pointer (some ⟨w7.heap.size, 33, none⟩), .int .i64 (((a' : Nat) : Int)), .bool false, .bool false, .pointer (some ⟨p8, 0, none⟩), .int .i64 (d), .int .i64 (((k : Nat) : Int)), .int .i64 ((k : Int) + 1), .pointer (some ⟨w7.heap.size, 0, none⟩), .pointer (some ⟨w7.heap.size, 0, none⟩), .pointer (some ⟨w7.heap.size, 33, none⟩), .int .i64 (((a' : Nat) : Int)), .int .i64 (d), .bool false, .bool false, .bool false, .pointer (some ⟨p8, 0, none⟩), .int .i64 (((p43 : Nat) : Int)), .bool false, .bool false, .bool false, .pointer (some ⟨p8, 0, none⟩), .int .i64 (((p43 : Nat) : Int)), .int .i64 (((k : Nat) : Int)), .int .i64 (((mo k : Nat) : Int)), .bool false, .bool false] (by rfl) (fun wx => Ms w wx [blk (w7.heap.size) (rc (s) (((k : Nat) : Int)) (((a' : Nat) : Int))) 34, wk p8 (k) L (a') p43, blk (w.heap.size) (kc (s)) 23]) hM.drew ?_ ?_
            · simp only [fullL, Act.put, List.setIfInBounds_toArray, List.set_cons_succ, List.set_cons_zero]
              refine ⟨?_, ?_, ?_, ?_, ?_, ?_, ?_, ?_, ?_, ?_, ?_, ?_, ?_, ?_, ?_, ?_, ?_, ?_, ?_, ?_, ?_, ?_, ?_, ?_, ?_, ?_, ?_, ?_, ?_, ?_, ?_, trivial⟩
              · exact fun wx hM => gw rfl (g_move _ (.pointer (some ⟨p8, 0, none⟩)) rfl ⟨rfl, hM⟩)
              · exact fun wx hM => gw rfl (g_call 11 _ _ [.pointer (some ⟨p8, 0, none⟩)] (kf11 _ _) rfl ((wat_any (show Ms w wx [wk p8 (k) L (a') p43, blk (w7.heap.size) (rc (s) (((k : Nat) : Int)) (((a' : Nat) : Int))) 34, blk (w.heap.size) (kc (s)) 23] from (hM.up 1 rfl))).mono (fun _ _ ⟨h1_, h2_⟩ => ⟨_, h1_, rfl, hM.call h2_⟩)))
              · exact fun wx hM => gw rfl (g_move _ (.pointer (some ⟨w7.heap.size, 0, none⟩)) rfl ⟨rfl, hM⟩)
              · exact fun wx hM => gw rfl (g_nil _ ⟨w7.heap.size, 0, none⟩ rfl ⟨rfl, hM⟩)
              · exact fun wx hM => gw rfl (g_fa 34 _ (w7.heap.size) (0) (33) 2 rfl (faR2 _ _) ⟨rfl, hM⟩)
              · exact fun wx hM => gw rfl (g_ld1 3 _ (w7.heap.size) 33 _ rfl (ld3 _ _ _ _ ((hM.get 0 rfl).cell 33 _ (rc_a _ _ _))) ⟨rfl, hM⟩)
              · exact fun wx hM => gw rfl (g_ine 3 _ _ .i64 (((a' : Nat) : Int)) (((a' : Nat) : Int)) false rfl rfl (decide_eq_false (fun h => h rfl)) ⟨rfl, hM⟩)
              · exact fun wx hM => gw rfl (g_move _ (.bool false) rfl ⟨rfl, hM⟩)
              · exact fun wx hM => gw rfl (g_move _ (.pointer (some ⟨p8, 0, none⟩)) rfl ⟨rfl, hM⟩)
              · exact fun wx hM => gw rfl (g_call 12 _ _ [.pointer (some ⟨p8, 0, none⟩)] (kf12 _ _) rfl ((wleft_any (show Ms w wx [wk p8 (k) L (a') p43, blk (w7.heap.size) (rc (s) (((k : Nat) : Int)) (((a' : Nat) : Int))) 34, blk (w.heap.size) (kc (s)) 23] from (hM.up 1 rfl)) (d) ⟨hd.out⟩).mono (fun _ _ ⟨h1_, h2_⟩ => ⟨_, h1_, rfl, hM.call h2_⟩)))
              · exact fun wx hM => gw rfl (g_move _ (.int .i64 (((k : Nat) : Int))) rfl ⟨rfl, hM⟩)
              · exact fun wx hM => gw rfl (g_ia 3 _ _ .i64 (((k : Nat) : Int)) (1) ((k : Int) + 1) rfl rfl ek1.out ⟨rfl, hM⟩)
              · exact fun wx hM => gw rfl (g_move _ (.pointer (some ⟨w7.heap.size, 0, none⟩)) rfl ⟨rfl, hM⟩)
              · exact fun wx hM => gw rfl (g_nil _ ⟨w7.heap.size, 0, none⟩ rfl ⟨rfl, hM⟩)
              · exact fun wx hM => gw rfl (g_fa 34 _ (w7.heap.size) (0) (33) 2 rfl (faR2 _ _) ⟨rfl, hM⟩)
              · exact fun wx hM => gw rfl (g_ld1 3 _ (w7.heap.size) 33 _ rfl (ld3 _ _ _ _ ((hM.get 0 rfl).cell 33 _ (rc_a _ _ _))) ⟨rfl, hM⟩)
              · exact fun wx hM => gw rfl (g_isub 3 _ _ .i64 ((k : Int) + 1) (((a' : Nat) : Int)) (d) rfl rfl ed.out ⟨rfl, hM⟩)
              · exact fun wx hM => gw rfl (g_ine 3 _ _ .i64 (d) (d) false rfl rfl (decide_eq_false (fun h => h rfl)) ⟨rfl, hM⟩)
              · exact fun wx hM => gw rfl (g_pickf _ _ _ (.bool false) rfl rfl ⟨rfl, hM⟩)
              · exact fun wx hM => gw rfl (g_move _ (.bool false) rfl ⟨rfl, hM⟩)
              · exact fun wx hM => gw rfl (g_move _ (.pointer (some ⟨p8, 0, none⟩)) rfl ⟨rfl, hM⟩)
              · exact fun wx hM => gw rfl (g_call 13 _ _ [.pointer (some ⟨p8, 0, none⟩)] (kf13 _ _) rfl ((wminds_any (show Ms w wx [wk p8 (k) L (a') p43, blk (w7.heap.size) (rc (s) (((k : Nat) : Int)) (((a' : Nat) : Int))) 34, blk (w.heap.size) (kc (s)) 23] from (hM.up 1 rfl))).mono (fun _ _ ⟨h1_, h2_⟩ => ⟨_, h1_, rfl, hM.call h2_⟩)))
              · exact fun wx hM => gw rfl (g_ilss 3 _ _ .i64 (((p43 : Nat) : Int)) (0) false rfl rfl (decide_eq_false (by omega)) ⟨rfl, hM⟩)
              · exact fun wx hM => gw rfl (g_pickf _ _ _ (.bool false) rfl rfl ⟨rfl, hM⟩)
              · exact fun wx hM => gw rfl (g_move _ (.bool false) rfl ⟨rfl, hM⟩)
              · exact fun wx hM => gw rfl (g_move _ (.pointer (some ⟨p8, 0, none⟩)) rfl ⟨rfl, hM⟩)
              · exact fun wx hM => gw rfl (g_call 13 _ _ [.pointer (some ⟨p8, 0, none⟩)] (kf13 _ _) rfl ((wminds_any (show Ms w wx [wk p8 (k) L (a') p43, blk (w7.heap.size) (rc (s) (((k : Nat) : Int)) (((a' : Nat) : Int))) 34, blk (w.heap.size) (kc (s)) 23] from (hM.up 1 rfl))).mono (fun _ _ ⟨h1_, h2_⟩ => ⟨_, h1_, rfl, hM.call h2_⟩)))
              · exact fun wx hM => gw rfl (g_move _ (.int .i64 (((k : Nat) : Int))) rfl ⟨rfl, hM⟩)
              · exact fun wx hM => gw rfl (g_call 14 _ _ [.int .i64 (((k : Nat) : Int))] (kf14 _ _) rfl ((most_any k h1 h2 wx).mono (fun _ _ ⟨h1_, h2_⟩ => ⟨_, h1_, rfl, hM.call h2_⟩)))
              · exact fun wx hM => gw rfl (g_igtr 3 _ _ .i64 (((p43 : Nat) : Int)) (((mo k : Nat) : Int)) false rfl rfl (decide_eq_false (by have := wk_few (show Ms w _ [wk p8 (k) L (a') p43, blk (w7.heap.size) (rc (s) (((k : Nat) : Int)) (((a' : Nat) : Int))) 34, blk (w.heap.size) (kc (s)) 23] from (hM.up 1 rfl)); omega)) ⟨rfl, hM⟩)
              · exact fun wx hM => gw rfl (g_pickf _ _ _ (.bool false) rfl rfl ⟨rfl, hM⟩)
            · simp only [fullL, Act.put, List.setIfInBounds_toArray, List.set_cons_succ, List.set_cons_zero]
              intro w45 hM
              refine hK44 _ _ ?_
              (try clear hK44 K44)
              refine wp_cond_false rfl ?_
              refine wp_skip ?_
              refine hK38 _ _ ?_
              (try clear hK38 K38)
              refine wl_region ?_
              refine wl_give rfl (g_move _ (.int .i64 (((i : Nat) : Int))) rfl ?_)
              (try simp only [Act.put, List.setIfInBounds_toArray, List.set_cons_zero, List.set_cons_succ])
              refine wl_give rfl (g_ia 3 _ _ .i64 (((i : Nat) : Int)) (1) (((i + 1 : Nat) : Int)) rfl rfl ei.out ?_)
              (try simp only [Act.put, List.setIfInBounds_toArray, List.set_cons_zero, List.set_cons_succ])
              refine wl_give rfl (g_assign _ (.int .i64 (((i + 1 : Nat) : Int))) rfl ?_)
              (try simp only [Act.put, List.setIfInBounds_toArray, List.set_cons_zero, List.set_cons_succ])
              refine wl_nil ?_
              have h9 : Ms w w45 [blk (w7.heap.size) (rc (s) (((k : Nat) : Int)) (((a' : Nat) : Int))) 34, wk p8 (k) L (a') p43, blk (w.heap.size) (kc (s)) 23] := (((hM.up 2 rfl).up 2 rfl).up 2 rfl)
              (try simp only [Exit.then, Exit.inBlock, ↓reduceIte, Nat.reduceEqDiff])
              go_roundw
              case rel => exact ⟨i + 1, _, _, by omega, rfl, h9⟩
              case measure => simp [intOf]; omega
      · skip
        refine wp_seq_k (fun K46 hK46 => ?_)
        refine wp_seq_k (fun K47 hK47 => ?_)
        refine wl_region ?_
        refine wl_give rfl (g_move _ (.int .i64 (((i : Nat) : Int))) rfl ?_)
        (try simp only [Act.put, List.setIfInBounds_toArray, List.set_cons_zero, List.set_cons_succ])
        refine wl_give rfl (g_move _ (.slice ao (c) (cap)) rfl ?_)
        (try simp only [Act.put, List.setIfInBounds_toArray, List.set_cons_zero, List.set_cons_succ])
        refine wl_give rfl (g_len _ 24 3 ao c cap (((c : Nat) : Int)) Tryd.underlying24 rfl rfl ?_)
        (try simp only [Act.put, List.setIfInBounds_toArray, List.set_cons_zero, List.set_cons_succ])
        refine wl_give rfl (g_ilss 3 _ _ .i64 (((i : Nat) : Int)) (((c : Nat) : Int)) true rfl rfl (decide_eq_true hic) ?_)
        (try simp only [Act.put, List.setIfInBounds_toArray, List.set_cons_zero, List.set_cons_succ])
        refine wl_give rfl (g_move _ (.bool true) rfl ?_)
        (try simp only [Act.put, List.setIfInBounds_toArray, List.set_cons_zero, List.set_cons_succ])
        refine wl_give rfl (g_move _ (.int .i64 (((i : Nat) : Int))) rfl ?_)
        (try simp only [Act.put, List.setIfInBounds_toArray, List.set_cons_zero, List.set_cons_succ])
        refine wl_give rfl (g_ilss 3 _ _ .i64 (((i : Nat) : Int)) (60) false rfl rfl (decide_eq_false hi6) ?_)
        (try simp only [Act.put, List.setIfInBounds_toArray, List.set_cons_zero, List.set_cons_succ])
        refine wl_give rfl (g_pickt _ _ _ (.bool false) rfl rfl ?_)
        (try simp only [Act.put, List.setIfInBounds_toArray, List.set_cons_zero, List.set_cons_succ])
        refine wl_nil ?_
        refine hK47 _ _ ?_
        (try clear hK47 K47)
        refine wp_cond_false rfl ?_
        refine wp_exit ?_
        refine hK17 _ _ ?_
        (try clear hK17 K17)
        refine wp_seq_k (fun K48 hK48 => ?_)
        refine wl_region ?_
        refine wl_give rfl (g_assign _ (.bool true) rfl ?_)
        (try simp only [Act.put, List.setIfInBounds_toArray, List.set_cons_zero, List.set_cons_succ])
        refine wl_nil ?_
        refine hK48 _ _ ?_
        (try clear hK48 K48)
        refine wp_ret ?_
        go_ret
        exact ⟨rfl, hM.below⟩
    · skip
      refine wp_seq_k (fun K49 hK49 => ?_)
      refine wp_seq_k (fun K50 hK50 => ?_)
      refine wl_region ?_
      refine wl_give rfl (g_move _ (.int .i64 (((i : Nat) : Int))) rfl ?_)
      (try simp only [Act.put, List.setIfInBounds_toArray, List.set_cons_zero, List.set_cons_succ])
      refine wl_give rfl (g_move _ (.slice ao (c) (cap)) rfl ?_)
      (try simp only [Act.put, List.setIfInBounds_toArray, List.set_cons_zero, List.set_cons_succ])
      refine wl_give rfl (g_len _ 24 3 ao c cap (((c : Nat) : Int)) Tryd.underlying24 rfl rfl ?_)
      (try simp only [Act.put, List.setIfInBounds_toArray, List.set_cons_zero, List.set_cons_succ])
      refine wl_give rfl (g_ilss 3 _ _ .i64 (((i : Nat) : Int)) (((c : Nat) : Int)) false rfl rfl (decide_eq_false hic) ?_)
      (try simp only [Act.put, List.setIfInBounds_toArray, List.set_cons_zero, List.set_cons_succ])
      refine wl_give rfl (g_move _ (.bool false) rfl ?_)
      (try simp only [Act.put, List.setIfInBounds_toArray, List.set_cons_zero, List.set_cons_succ])
      refine wl_skip rfl ?_
      (try simp only [Act.put, List.setIfInBounds_toArray, List.set_cons_zero, List.set_cons_succ])
      refine wl_skip rfl ?_
      (try simp only [Act.put, List.setIfInBounds_toArray, List.set_cons_zero, List.set_cons_succ])
      refine wl_give rfl (g_pickf _ _ _ (.bool false) rfl rfl ?_)
      (try simp only [Act.put, List.setIfInBounds_toArray, List.set_cons_zero, List.set_cons_succ])
      refine wl_nil ?_
      refine hK50 _ _ ?_
      (try clear hK50 K50)
      refine wp_cond_false rfl ?_
      refine wp_exit ?_
      refine hK17 _ _ ?_
      (try clear hK17 K17)
      refine wp_seq_k (fun K51 hK51 => ?_)
      refine wl_region ?_
      refine wl_give rfl (g_assign _ (.bool true) rfl ?_)
      (try simp only [Act.put, List.setIfInBounds_toArray, List.set_cons_zero, List.set_cons_succ])
      refine wl_nil ?_
      refine hK51 _ _ ?_
      (try clear hK51 K51)
      refine wp_ret ?_
      go_ret
      exact ⟨rfl, hM.below⟩
theorem walk (l0 : List UInt8) (h0 : l0.length = 32) (n : Int) (hn : (Lit.int .i64 n).wf = true) (ao : Option Addr) (c cap : Nat) (is : Nat → Int) (w : World) (hbs : LV w ao c (fun j => .int .i64 (is j))) (hT : Tabs w) : Calls Tryd.prog 3 #[.agg (bc l0).toArray, .int .i64 n, .slice ao c cap] w fun e w' => e = .returned (.bool true) ∧ Below w.heap.size w w' := by
  by_cases h1 : n < 1
  · exact walk_lo ⟨l0, h0⟩ ao c cap w hT n h1
  by_cases h2 : 1024 < n
  · exact walk_hi ⟨l0, h0⟩ ao c cap w hT n h1 h2
  obtain ⟨k, rfl⟩ : ∃ k : Nat, n = ((k : Nat) : Int) := ⟨n.toNat, by omega⟩
  by_cases h4 : (40 : Int) < ((k : Nat) : Int)
  · exact walk_far ⟨l0, h0⟩ ao c cap w hT k _ (by omega) (by omega) ⟨rfl⟩ ⟨wrap_id _ (by omega) (by omega)⟩ h4
  · exact walk_near ⟨l0, h0⟩ ao c cap w hT is hbs k _ (by omega) (by omega) ⟨rfl⟩ ⟨wrap_id _ (by omega) (by omega)⟩ h4
end Go.Proofs.YtdfpnicpcndkjaaDoor.pebbleDoes
