/- What the reference's plan answers: May, Begins, At, Tells, Then: as the program's does. -/
import Derived.Test.YtphocklnhoakcaaDoorPl1
import Derived.WalkKit
import Derived.WalkSpells
import Derived.WalkLawsBesides
namespace Go.Proofs.YtphocklnhoakcaaDoor
set_option maxRecDepth 10000
open Go Go.RowKit
set_option linter.unusedVariables false
set_option linter.unusedSimpArgs false

set_option maxHeartbeats 4000000 in
theorem rmay_0 (P : Pl) (w : World)  (c0 : ¬ -1152921504606846976 ≤ P.st) : Calls Tryd.prog 44 #[.agg (plc P).toArray] w fun e w' => e = .returned (.bool false) ∧ Below w.heap.size w w' := by
  have hM := Ms.refl w
  go_enter Tryd.func44, Tryd.ntmps44
  refine wp_seq_k (fun K1 hK1 => ?_)
  refine wl_region ?_
  refine wl_give rfl (g_box 34 _ (plc (P)) rfl ?_)
  intro w2 t_ b_
  replace hM := hM.new t_ b_
  clear t_ b_
  (try simp only [Act.put, st_a, st_0, st_s])
  refine wl_give rfl (g_assign _ (.bool false) rfl ?_)
  (try simp only [Act.put, st_a, st_0, st_s])
  refine wl_nil ?_
  refine hK1 _ _ ?_
  (try clear hK1 K1)
  refine wp_seq_k (fun K3 hK3 => ?_)
  (try simp only [List.append_eq, List.cons_append, List.nil_append])
  refine wl_region ?_
  refine wl_give rfl (g_fa 34 _ (w.heap.size) (0) (0) 0 rfl (faRp0 _ _ _) ?_)
  (try simp only [Act.put, st_a, st_0, st_s])
  refine wl_give rfl (g_ld1 2 _ (w.heap.size) (0) _ rfl (ld2 _ _ _ _ ((hM.get 0 rfl).cell (0) _ (rfl))) ?_)
  (try simp only [Act.put, st_a, st_0, st_s])
  refine wl_give rfl (g_igeq 2 _ _ .i64 ((P).st) (-1152921504606846976) false rfl rfl (decide_eq_false c0) ?_)
  (try simp only [Act.put, st_a, st_0, st_s])
  refine wl_give rfl (g_move _ (.bool false) rfl ?_)
  (try simp only [Act.put, st_a, st_0, st_s])
  refine wl_skip rfl ?_
  (try simp only [Act.put, st_a, st_0, st_s])
  refine wl_skip rfl ?_
  (try simp only [Act.put, st_a, st_0, st_s])
  refine wl_skip rfl ?_
  (try simp only [Act.put, st_a, st_0, st_s])
  refine wl_give rfl (g_pickf _ _ _ (.bool false) rfl rfl ?_)
  (try simp only [Act.put, st_a, st_0, st_s])
  refine wl_give rfl (g_move _ (.bool false) rfl ?_)
  (try simp only [Act.put, st_a, st_0, st_s])
  refine wl_skip rfl ?_
  (try simp only [Act.put, st_a, st_0, st_s])
  refine wl_skip rfl ?_
  (try simp only [Act.put, st_a, st_0, st_s])
  refine wl_skip rfl ?_
  (try simp only [Act.put, st_a, st_0, st_s])
  refine wl_give rfl (g_pickf _ _ _ (.bool false) rfl rfl ?_)
  (try simp only [Act.put, st_a, st_0, st_s])
  refine wl_give rfl (g_move _ (.bool false) rfl ?_)
  (try simp only [Act.put, st_a, st_0, st_s])
  refine wl_skip rfl ?_
  (try simp only [Act.put, st_a, st_0, st_s])
  refine wl_skip rfl ?_
  (try simp only [Act.put, st_a, st_0, st_s])
  refine wl_skip rfl ?_
  (try simp only [Act.put, st_a, st_0, st_s])
  refine wl_give rfl (g_pickf _ _ _ (.bool false) rfl rfl ?_)
  (try simp only [Act.put, st_a, st_0, st_s])
  refine wl_give rfl (g_move _ (.bool false) rfl ?_)
  (try simp only [Act.put, st_a, st_0, st_s])
  refine wl_skip rfl ?_
  (try simp only [Act.put, st_a, st_0, st_s])
  refine wl_skip rfl ?_
  (try simp only [Act.put, st_a, st_0, st_s])
  refine wl_skip rfl ?_
  (try simp only [Act.put, st_a, st_0, st_s])
  refine wl_give rfl (g_pickf _ _ _ (.bool false) rfl rfl ?_)
  (try simp only [Act.put, st_a, st_0, st_s])
  refine wl_give rfl (g_move _ (.bool false) rfl ?_)
  (try simp only [Act.put, st_a, st_0, st_s])
  refine wl_skip rfl ?_
  (try simp only [Act.put, st_a, st_0, st_s])
  refine wl_skip rfl ?_
  (try simp only [Act.put, st_a, st_0, st_s])
  refine wl_skip rfl ?_
  (try simp only [Act.put, st_a, st_0, st_s])
  refine wl_give rfl (g_pickf _ _ _ (.bool false) rfl rfl ?_)
  (try simp only [Act.put, st_a, st_0, st_s])
  refine wl_give rfl (g_move _ (.bool false) rfl ?_)
  (try simp only [Act.put, st_a, st_0, st_s])
  refine wl_skip rfl ?_
  (try simp only [Act.put, st_a, st_0, st_s])
  refine wl_skip rfl ?_
  (try simp only [Act.put, st_a, st_0, st_s])
  refine wl_skip rfl ?_
  (try simp only [Act.put, st_a, st_0, st_s])
  refine wl_give rfl (g_pickf _ _ _ (.bool false) rfl rfl ?_)
  (try simp only [Act.put, st_a, st_0, st_s])
  refine wl_give rfl (g_move _ (.bool false) rfl ?_)
  (try simp only [Act.put, st_a, st_0, st_s])
  refine wl_skip rfl ?_
  (try simp only [Act.put, st_a, st_0, st_s])
  refine wl_skip rfl ?_
  (try simp only [Act.put, st_a, st_0, st_s])
  refine wl_skip rfl ?_
  (try simp only [Act.put, st_a, st_0, st_s])
  refine wl_give rfl (g_pickf _ _ _ (.bool false) rfl rfl ?_)
  (try simp only [Act.put, st_a, st_0, st_s])
  refine wl_give rfl (g_assign _ (.bool false) rfl ?_)
  (try simp only [Act.put, st_a, st_0, st_s])
  refine wl_nil ?_
  refine hK3 _ _ ?_
  (try clear hK3 K3)
  refine wp_ret ?_
  go_ret
  exact ⟨rfl, hM.below⟩
set_option maxHeartbeats 4000000 in
theorem rmay_1 (P : Pl) (w : World) (c0 : -1152921504606846976 ≤ P.st) (c1 : ¬ P.st ≤ 1152921504606846976) : Calls Tryd.prog 44 #[.agg (plc P).toArray] w fun e w' => e = .returned (.bool false) ∧ Below w.heap.size w w' := by
  have hM := Ms.refl w
  go_enter Tryd.func44, Tryd.ntmps44
  refine wp_seq_k (fun K1 hK1 => ?_)
  refine wl_region ?_
  refine wl_give rfl (g_box 34 _ (plc (P)) rfl ?_)
  intro w2 t_ b_
  replace hM := hM.new t_ b_
  clear t_ b_
  (try simp only [Act.put, st_a, st_0, st_s])
  refine wl_give rfl (g_assign _ (.bool false) rfl ?_)
  (try simp only [Act.put, st_a, st_0, st_s])
  refine wl_nil ?_
  refine hK1 _ _ ?_
  (try clear hK1 K1)
  refine wp_seq_k (fun K3 hK3 => ?_)
  (try simp only [List.append_eq, List.cons_append, List.nil_append])
  refine wl_region ?_
  refine wl_give rfl (g_fa 34 _ (w.heap.size) (0) (0) 0 rfl (faRp0 _ _ _) ?_)
  (try simp only [Act.put, st_a, st_0, st_s])
  refine wl_give rfl (g_ld1 2 _ (w.heap.size) (0) _ rfl (ld2 _ _ _ _ ((hM.get 0 rfl).cell (0) _ (rfl))) ?_)
  (try simp only [Act.put, st_a, st_0, st_s])
  refine wl_give rfl (g_igeq 2 _ _ .i64 ((P).st) (-1152921504606846976) true rfl rfl (decide_eq_true c0) ?_)
  (try simp only [Act.put, st_a, st_0, st_s])
  refine wl_give rfl (g_move _ (.bool true) rfl ?_)
  (try simp only [Act.put, st_a, st_0, st_s])
  refine wl_give rfl (g_fa 34 _ (w.heap.size) (0) (0) 0 rfl (faRp0 _ _ _) ?_)
  (try simp only [Act.put, st_a, st_0, st_s])
  refine wl_give rfl (g_ld1 2 _ (w.heap.size) (0) _ rfl (ld2 _ _ _ _ ((hM.get 0 rfl).cell (0) _ (rfl))) ?_)
  (try simp only [Act.put, st_a, st_0, st_s])
  refine wl_give rfl (g_ileq 2 _ _ .i64 ((P).st) (1152921504606846976) false rfl rfl (decide_eq_false c1) ?_)
  (try simp only [Act.put, st_a, st_0, st_s])
  refine wl_give rfl (g_pickt _ _ _ (.bool false) rfl rfl ?_)
  (try simp only [Act.put, st_a, st_0, st_s])
  refine wl_give rfl (g_move _ (.bool false) rfl ?_)
  (try simp only [Act.put, st_a, st_0, st_s])
  refine wl_skip rfl ?_
  (try simp only [Act.put, st_a, st_0, st_s])
  refine wl_skip rfl ?_
  (try simp only [Act.put, st_a, st_0, st_s])
  refine wl_skip rfl ?_
  (try simp only [Act.put, st_a, st_0, st_s])
  refine wl_give rfl (g_pickf _ _ _ (.bool false) rfl rfl ?_)
  (try simp only [Act.put, st_a, st_0, st_s])
  refine wl_give rfl (g_move _ (.bool false) rfl ?_)
  (try simp only [Act.put, st_a, st_0, st_s])
  refine wl_skip rfl ?_
  (try simp only [Act.put, st_a, st_0, st_s])
  refine wl_skip rfl ?_
  (try simp only [Act.put, st_a, st_0, st_s])
  refine wl_skip rfl ?_
  (try simp only [Act.put, st_a, st_0, st_s])
  refine wl_give rfl (g_pickf _ _ _ (.bool false) rfl rfl ?_)
  (try simp only [Act.put, st_a, st_0, st_s])
  refine wl_give rfl (g_move _ (.bool false) rfl ?_)
  (try simp only [Act.put, st_a, st_0, st_s])
  refine wl_skip rfl ?_
  (try simp only [Act.put, st_a, st_0, st_s])
  refine wl_skip rfl ?_
  (try simp only [Act.put, st_a, st_0, st_s])
  refine wl_skip rfl ?_
  (try simp only [Act.put, st_a, st_0, st_s])
  refine wl_give rfl (g_pickf _ _ _ (.bool false) rfl rfl ?_)
  (try simp only [Act.put, st_a, st_0, st_s])
  refine wl_give rfl (g_move _ (.bool false) rfl ?_)
  (try simp only [Act.put, st_a, st_0, st_s])
  refine wl_skip rfl ?_
  (try simp only [Act.put, st_a, st_0, st_s])
  refine wl_skip rfl ?_
  (try simp only [Act.put, st_a, st_0, st_s])
  refine wl_skip rfl ?_
  (try simp only [Act.put, st_a, st_0, st_s])
  refine wl_give rfl (g_pickf _ _ _ (.bool false) rfl rfl ?_)
  (try simp only [Act.put, st_a, st_0, st_s])
  refine wl_give rfl (g_move _ (.bool false) rfl ?_)
  (try simp only [Act.put, st_a, st_0, st_s])
  refine wl_skip rfl ?_
  (try simp only [Act.put, st_a, st_0, st_s])
  refine wl_skip rfl ?_
  (try simp only [Act.put, st_a, st_0, st_s])
  refine wl_skip rfl ?_
  (try simp only [Act.put, st_a, st_0, st_s])
  refine wl_give rfl (g_pickf _ _ _ (.bool false) rfl rfl ?_)
  (try simp only [Act.put, st_a, st_0, st_s])
  refine wl_give rfl (g_move _ (.bool false) rfl ?_)
  (try simp only [Act.put, st_a, st_0, st_s])
  refine wl_skip rfl ?_
  (try simp only [Act.put, st_a, st_0, st_s])
  refine wl_skip rfl ?_
  (try simp only [Act.put, st_a, st_0, st_s])
  refine wl_skip rfl ?_
  (try simp only [Act.put, st_a, st_0, st_s])
  refine wl_give rfl (g_pickf _ _ _ (.bool false) rfl rfl ?_)
  (try simp only [Act.put, st_a, st_0, st_s])
  refine wl_give rfl (g_assign _ (.bool false) rfl ?_)
  (try simp only [Act.put, st_a, st_0, st_s])
  refine wl_nil ?_
  refine hK3 _ _ ?_
  (try clear hK3 K3)
  refine wp_ret ?_
  go_ret
  exact ⟨rfl, hM.below⟩
set_option maxHeartbeats 4000000 in
theorem rmay_2 (P : Pl) (w : World) (c0 : -1152921504606846976 ≤ P.st) (c1 : P.st ≤ 1152921504606846976) (c2 : ¬ 1 ≤ P.lg) : Calls Tryd.prog 44 #[.agg (plc P).toArray] w fun e w' => e = .returned (.bool false) ∧ Below w.heap.size w w' := by
  have hM := Ms.refl w
  go_enter Tryd.func44, Tryd.ntmps44
  refine wp_seq_k (fun K1 hK1 => ?_)
  refine wl_region ?_
  refine wl_give rfl (g_box 34 _ (plc (P)) rfl ?_)
  intro w2 t_ b_
  replace hM := hM.new t_ b_
  clear t_ b_
  (try simp only [Act.put, st_a, st_0, st_s])
  refine wl_give rfl (g_assign _ (.bool false) rfl ?_)
  (try simp only [Act.put, st_a, st_0, st_s])
  refine wl_nil ?_
  refine hK1 _ _ ?_
  (try clear hK1 K1)
  refine wp_seq_k (fun K3 hK3 => ?_)
  (try simp only [List.append_eq, List.cons_append, List.nil_append])
  refine wl_region ?_
  refine wl_give rfl (g_fa 34 _ (w.heap.size) (0) (0) 0 rfl (faRp0 _ _ _) ?_)
  (try simp only [Act.put, st_a, st_0, st_s])
  refine wl_give rfl (g_ld1 2 _ (w.heap.size) (0) _ rfl (ld2 _ _ _ _ ((hM.get 0 rfl).cell (0) _ (rfl))) ?_)
  (try simp only [Act.put, st_a, st_0, st_s])
  refine wl_give rfl (g_igeq 2 _ _ .i64 ((P).st) (-1152921504606846976) true rfl rfl (decide_eq_true c0) ?_)
  (try simp only [Act.put, st_a, st_0, st_s])
  refine wl_give rfl (g_move _ (.bool true) rfl ?_)
  (try simp only [Act.put, st_a, st_0, st_s])
  refine wl_give rfl (g_fa 34 _ (w.heap.size) (0) (0) 0 rfl (faRp0 _ _ _) ?_)
  (try simp only [Act.put, st_a, st_0, st_s])
  refine wl_give rfl (g_ld1 2 _ (w.heap.size) (0) _ rfl (ld2 _ _ _ _ ((hM.get 0 rfl).cell (0) _ (rfl))) ?_)
  (try simp only [Act.put, st_a, st_0, st_s])
  refine wl_give rfl (g_ileq 2 _ _ .i64 ((P).st) (1152921504606846976) true rfl rfl (decide_eq_true c1) ?_)
  (try simp only [Act.put, st_a, st_0, st_s])
  refine wl_give rfl (g_pickt _ _ _ (.bool true) rfl rfl ?_)
  (try simp only [Act.put, st_a, st_0, st_s])
  refine wl_give rfl (g_move _ (.bool true) rfl ?_)
  (try simp only [Act.put, st_a, st_0, st_s])
  refine wl_give rfl (g_fa 34 _ (w.heap.size) (0) (1) 1 rfl (faRp1 _ _ _) ?_)
  (try simp only [Act.put, st_a, st_0, st_s])
  refine wl_give rfl (g_ld1 2 _ (w.heap.size) (1) _ rfl (ld2 _ _ _ _ ((hM.get 0 rfl).cell (1) _ (rfl))) ?_)
  (try simp only [Act.put, st_a, st_0, st_s])
  refine wl_give rfl (g_igeq 2 _ _ .i64 ((P).lg) (1) false rfl rfl (decide_eq_false c2) ?_)
  (try simp only [Act.put, st_a, st_0, st_s])
  refine wl_give rfl (g_pickt _ _ _ (.bool false) rfl rfl ?_)
  (try simp only [Act.put, st_a, st_0, st_s])
  refine wl_give rfl (g_move _ (.bool false) rfl ?_)
  (try simp only [Act.put, st_a, st_0, st_s])
  refine wl_skip rfl ?_
  (try simp only [Act.put, st_a, st_0, st_s])
  refine wl_skip rfl ?_
  (try simp only [Act.put, st_a, st_0, st_s])
  refine wl_skip rfl ?_
  (try simp only [Act.put, st_a, st_0, st_s])
  refine wl_give rfl (g_pickf _ _ _ (.bool false) rfl rfl ?_)
  (try simp only [Act.put, st_a, st_0, st_s])
  refine wl_give rfl (g_move _ (.bool false) rfl ?_)
  (try simp only [Act.put, st_a, st_0, st_s])
  refine wl_skip rfl ?_
  (try simp only [Act.put, st_a, st_0, st_s])
  refine wl_skip rfl ?_
  (try simp only [Act.put, st_a, st_0, st_s])
  refine wl_skip rfl ?_
  (try simp only [Act.put, st_a, st_0, st_s])
  refine wl_give rfl (g_pickf _ _ _ (.bool false) rfl rfl ?_)
  (try simp only [Act.put, st_a, st_0, st_s])
  refine wl_give rfl (g_move _ (.bool false) rfl ?_)
  (try simp only [Act.put, st_a, st_0, st_s])
  refine wl_skip rfl ?_
  (try simp only [Act.put, st_a, st_0, st_s])
  refine wl_skip rfl ?_
  (try simp only [Act.put, st_a, st_0, st_s])
  refine wl_skip rfl ?_
  (try simp only [Act.put, st_a, st_0, st_s])
  refine wl_give rfl (g_pickf _ _ _ (.bool false) rfl rfl ?_)
  (try simp only [Act.put, st_a, st_0, st_s])
  refine wl_give rfl (g_move _ (.bool false) rfl ?_)
  (try simp only [Act.put, st_a, st_0, st_s])
  refine wl_skip rfl ?_
  (try simp only [Act.put, st_a, st_0, st_s])
  refine wl_skip rfl ?_
  (try simp only [Act.put, st_a, st_0, st_s])
  refine wl_skip rfl ?_
  (try simp only [Act.put, st_a, st_0, st_s])
  refine wl_give rfl (g_pickf _ _ _ (.bool false) rfl rfl ?_)
  (try simp only [Act.put, st_a, st_0, st_s])
  refine wl_give rfl (g_move _ (.bool false) rfl ?_)
  (try simp only [Act.put, st_a, st_0, st_s])
  refine wl_skip rfl ?_
  (try simp only [Act.put, st_a, st_0, st_s])
  refine wl_skip rfl ?_
  (try simp only [Act.put, st_a, st_0, st_s])
  refine wl_skip rfl ?_
  (try simp only [Act.put, st_a, st_0, st_s])
  refine wl_give rfl (g_pickf _ _ _ (.bool false) rfl rfl ?_)
  (try simp only [Act.put, st_a, st_0, st_s])
  refine wl_give rfl (g_assign _ (.bool false) rfl ?_)
  (try simp only [Act.put, st_a, st_0, st_s])
  refine wl_nil ?_
  refine hK3 _ _ ?_
  (try clear hK3 K3)
  refine wp_ret ?_
  go_ret
  exact ⟨rfl, hM.below⟩
set_option maxHeartbeats 4000000 in
theorem rmay_3 (P : Pl) (w : World) (c0 : -1152921504606846976 ≤ P.st) (c1 : P.st ≤ 1152921504606846976) (c2 : 1 ≤ P.lg) (c3 : ¬ P.lg ≤ 1099511627776) : Calls Tryd.prog 44 #[.agg (plc P).toArray] w fun e w' => e = .returned (.bool false) ∧ Below w.heap.size w w' := by
  have hM := Ms.refl w
  go_enter Tryd.func44, Tryd.ntmps44
  refine wp_seq_k (fun K1 hK1 => ?_)
  refine wl_region ?_
  refine wl_give rfl (g_box 34 _ (plc (P)) rfl ?_)
  intro w2 t_ b_
  replace hM := hM.new t_ b_
  clear t_ b_
  (try simp only [Act.put, st_a, st_0, st_s])
  refine wl_give rfl (g_assign _ (.bool false) rfl ?_)
  (try simp only [Act.put, st_a, st_0, st_s])
  refine wl_nil ?_
  refine hK1 _ _ ?_
  (try clear hK1 K1)
  refine wp_seq_k (fun K3 hK3 => ?_)
  (try simp only [List.append_eq, List.cons_append, List.nil_append])
  refine wl_region ?_
  refine wl_give rfl (g_fa 34 _ (w.heap.size) (0) (0) 0 rfl (faRp0 _ _ _) ?_)
  (try simp only [Act.put, st_a, st_0, st_s])
  refine wl_give rfl (g_ld1 2 _ (w.heap.size) (0) _ rfl (ld2 _ _ _ _ ((hM.get 0 rfl).cell (0) _ (rfl))) ?_)
  (try simp only [Act.put, st_a, st_0, st_s])
  refine wl_give rfl (g_igeq 2 _ _ .i64 ((P).st) (-1152921504606846976) true rfl rfl (decide_eq_true c0) ?_)
  (try simp only [Act.put, st_a, st_0, st_s])
  refine wl_give rfl (g_move _ (.bool true) rfl ?_)
  (try simp only [Act.put, st_a, st_0, st_s])
  refine wl_give rfl (g_fa 34 _ (w.heap.size) (0) (0) 0 rfl (faRp0 _ _ _) ?_)
  (try simp only [Act.put, st_a, st_0, st_s])
  refine wl_give rfl (g_ld1 2 _ (w.heap.size) (0) _ rfl (ld2 _ _ _ _ ((hM.get 0 rfl).cell (0) _ (rfl))) ?_)
  (try simp only [Act.put, st_a, st_0, st_s])
  refine wl_give rfl (g_ileq 2 _ _ .i64 ((P).st) (1152921504606846976) true rfl rfl (decide_eq_true c1) ?_)
  (try simp only [Act.put, st_a, st_0, st_s])
  refine wl_give rfl (g_pickt _ _ _ (.bool true) rfl rfl ?_)
  (try simp only [Act.put, st_a, st_0, st_s])
  refine wl_give rfl (g_move _ (.bool true) rfl ?_)
  (try simp only [Act.put, st_a, st_0, st_s])
  refine wl_give rfl (g_fa 34 _ (w.heap.size) (0) (1) 1 rfl (faRp1 _ _ _) ?_)
  (try simp only [Act.put, st_a, st_0, st_s])
  refine wl_give rfl (g_ld1 2 _ (w.heap.size) (1) _ rfl (ld2 _ _ _ _ ((hM.get 0 rfl).cell (1) _ (rfl))) ?_)
  (try simp only [Act.put, st_a, st_0, st_s])
  refine wl_give rfl (g_igeq 2 _ _ .i64 ((P).lg) (1) true rfl rfl (decide_eq_true c2) ?_)
  (try simp only [Act.put, st_a, st_0, st_s])
  refine wl_give rfl (g_pickt _ _ _ (.bool true) rfl rfl ?_)
  (try simp only [Act.put, st_a, st_0, st_s])
  refine wl_give rfl (g_move _ (.bool true) rfl ?_)
  (try simp only [Act.put, st_a, st_0, st_s])
  refine wl_give rfl (g_fa 34 _ (w.heap.size) (0) (1) 1 rfl (faRp1 _ _ _) ?_)
  (try simp only [Act.put, st_a, st_0, st_s])
  refine wl_give rfl (g_ld1 2 _ (w.heap.size) (1) _ rfl (ld2 _ _ _ _ ((hM.get 0 rfl).cell (1) _ (rfl))) ?_)
  (try simp only [Act.put, st_a, st_0, st_s])
  refine wl_give rfl (g_ileq 2 _ _ .i64 ((P).lg) (1099511627776) false rfl rfl (decide_eq_false c3) ?_)
  (try simp only [Act.put, st_a, st_0, st_s])
  refine wl_give rfl (g_pickt _ _ _ (.bool false) rfl rfl ?_)
  (try simp only [Act.put, st_a, st_0, st_s])
  refine wl_give rfl (g_move _ (.bool false) rfl ?_)
  (try simp only [Act.put, st_a, st_0, st_s])
  refine wl_skip rfl ?_
  (try simp only [Act.put, st_a, st_0, st_s])
  refine wl_skip rfl ?_
  (try simp only [Act.put, st_a, st_0, st_s])
  refine wl_skip rfl ?_
  (try simp only [Act.put, st_a, st_0, st_s])
  refine wl_give rfl (g_pickf _ _ _ (.bool false) rfl rfl ?_)
  (try simp only [Act.put, st_a, st_0, st_s])
  refine wl_give rfl (g_move _ (.bool false) rfl ?_)
  (try simp only [Act.put, st_a, st_0, st_s])
  refine wl_skip rfl ?_
  (try simp only [Act.put, st_a, st_0, st_s])
  refine wl_skip rfl ?_
  (try simp only [Act.put, st_a, st_0, st_s])
  refine wl_skip rfl ?_
  (try simp only [Act.put, st_a, st_0, st_s])
  refine wl_give rfl (g_pickf _ _ _ (.bool false) rfl rfl ?_)
  (try simp only [Act.put, st_a, st_0, st_s])
  refine wl_give rfl (g_move _ (.bool false) rfl ?_)
  (try simp only [Act.put, st_a, st_0, st_s])
  refine wl_skip rfl ?_
  (try simp only [Act.put, st_a, st_0, st_s])
  refine wl_skip rfl ?_
  (try simp only [Act.put, st_a, st_0, st_s])
  refine wl_skip rfl ?_
  (try simp only [Act.put, st_a, st_0, st_s])
  refine wl_give rfl (g_pickf _ _ _ (.bool false) rfl rfl ?_)
  (try simp only [Act.put, st_a, st_0, st_s])
  refine wl_give rfl (g_move _ (.bool false) rfl ?_)
  (try simp only [Act.put, st_a, st_0, st_s])
  refine wl_skip rfl ?_
  (try simp only [Act.put, st_a, st_0, st_s])
  refine wl_skip rfl ?_
  (try simp only [Act.put, st_a, st_0, st_s])
  refine wl_skip rfl ?_
  (try simp only [Act.put, st_a, st_0, st_s])
  refine wl_give rfl (g_pickf _ _ _ (.bool false) rfl rfl ?_)
  (try simp only [Act.put, st_a, st_0, st_s])
  refine wl_give rfl (g_assign _ (.bool false) rfl ?_)
  (try simp only [Act.put, st_a, st_0, st_s])
  refine wl_nil ?_
  refine hK3 _ _ ?_
  (try clear hK3 K3)
  refine wp_ret ?_
  go_ret
  exact ⟨rfl, hM.below⟩
set_option maxHeartbeats 4000000 in
theorem rmay_4 (P : Pl) (w : World) (c0 : -1152921504606846976 ≤ P.st) (c1 : P.st ≤ 1152921504606846976) (c2 : 1 ≤ P.lg) (c3 : P.lg ≤ 1099511627776) (c4 : ¬ 1 ≤ P.dl) : Calls Tryd.prog 44 #[.agg (plc P).toArray] w fun e w' => e = .returned (.bool false) ∧ Below w.heap.size w w' := by
  have hM := Ms.refl w
  go_enter Tryd.func44, Tryd.ntmps44
  refine wp_seq_k (fun K1 hK1 => ?_)
  refine wl_region ?_
  refine wl_give rfl (g_box 34 _ (plc (P)) rfl ?_)
  intro w2 t_ b_
  replace hM := hM.new t_ b_
  clear t_ b_
  (try simp only [Act.put, st_a, st_0, st_s])
  refine wl_give rfl (g_assign _ (.bool false) rfl ?_)
  (try simp only [Act.put, st_a, st_0, st_s])
  refine wl_nil ?_
  refine hK1 _ _ ?_
  (try clear hK1 K1)
  refine wp_seq_k (fun K3 hK3 => ?_)
  (try simp only [List.append_eq, List.cons_append, List.nil_append])
  refine wl_region ?_
  refine wl_give rfl (g_fa 34 _ (w.heap.size) (0) (0) 0 rfl (faRp0 _ _ _) ?_)
  (try simp only [Act.put, st_a, st_0, st_s])
  refine wl_give rfl (g_ld1 2 _ (w.heap.size) (0) _ rfl (ld2 _ _ _ _ ((hM.get 0 rfl).cell (0) _ (rfl))) ?_)
  (try simp only [Act.put, st_a, st_0, st_s])
  refine wl_give rfl (g_igeq 2 _ _ .i64 ((P).st) (-1152921504606846976) true rfl rfl (decide_eq_true c0) ?_)
  (try simp only [Act.put, st_a, st_0, st_s])
  refine wl_give rfl (g_move _ (.bool true) rfl ?_)
  (try simp only [Act.put, st_a, st_0, st_s])
  refine wl_give rfl (g_fa 34 _ (w.heap.size) (0) (0) 0 rfl (faRp0 _ _ _) ?_)
  (try simp only [Act.put, st_a, st_0, st_s])
  refine wl_give rfl (g_ld1 2 _ (w.heap.size) (0) _ rfl (ld2 _ _ _ _ ((hM.get 0 rfl).cell (0) _ (rfl))) ?_)
  (try simp only [Act.put, st_a, st_0, st_s])
  refine wl_give rfl (g_ileq 2 _ _ .i64 ((P).st) (1152921504606846976) true rfl rfl (decide_eq_true c1) ?_)
  (try simp only [Act.put, st_a, st_0, st_s])
  refine wl_give rfl (g_pickt _ _ _ (.bool true) rfl rfl ?_)
  (try simp only [Act.put, st_a, st_0, st_s])
  refine wl_give rfl (g_move _ (.bool true) rfl ?_)
  (try simp only [Act.put, st_a, st_0, st_s])
  refine wl_give rfl (g_fa 34 _ (w.heap.size) (0) (1) 1 rfl (faRp1 _ _ _) ?_)
  (try simp only [Act.put, st_a, st_0, st_s])
  refine wl_give rfl (g_ld1 2 _ (w.heap.size) (1) _ rfl (ld2 _ _ _ _ ((hM.get 0 rfl).cell (1) _ (rfl))) ?_)
  (try simp only [Act.put, st_a, st_0, st_s])
  refine wl_give rfl (g_igeq 2 _ _ .i64 ((P).lg) (1) true rfl rfl (decide_eq_true c2) ?_)
  (try simp only [Act.put, st_a, st_0, st_s])
  refine wl_give rfl (g_pickt _ _ _ (.bool true) rfl rfl ?_)
  (try simp only [Act.put, st_a, st_0, st_s])
  refine wl_give rfl (g_move _ (.bool true) rfl ?_)
  (try simp only [Act.put, st_a, st_0, st_s])
  refine wl_give rfl (g_fa 34 _ (w.heap.size) (0) (1) 1 rfl (faRp1 _ _ _) ?_)
  (try simp only [Act.put, st_a, st_0, st_s])
  refine wl_give rfl (g_ld1 2 _ (w.heap.size) (1) _ rfl (ld2 _ _ _ _ ((hM.get 0 rfl).cell (1) _ (rfl))) ?_)
  (try simp only [Act.put, st_a, st_0, st_s])
  refine wl_give rfl (g_ileq 2 _ _ .i64 ((P).lg) (1099511627776) true rfl rfl (decide_eq_true c3) ?_)
  (try simp only [Act.put, st_a, st_0, st_s])
  refine wl_give rfl (g_pickt _ _ _ (.bool true) rfl rfl ?_)
  (try simp only [Act.put, st_a, st_0, st_s])
  refine wl_give rfl (g_move _ (.bool true) rfl ?_)
  (try simp only [Act.put, st_a, st_0, st_s])
  refine wl_give rfl (g_fa 34 _ (w.heap.size) (0) (2) 2 rfl (faRp2 _ _ _) ?_)
  (try simp only [Act.put, st_a, st_0, st_s])
  refine wl_give rfl (g_ld1 3 _ (w.heap.size) (2) _ rfl (ld3 _ _ _ _ ((hM.get 0 rfl).cell (2) _ (rfl))) ?_)
  (try simp only [Act.put, st_a, st_0, st_s])
  refine wl_give rfl (g_igeq 3 _ _ .i64 ((P).dl) (1) false rfl rfl (decide_eq_false c4) ?_)
  (try simp only [Act.put, st_a, st_0, st_s])
  refine wl_give rfl (g_pickt _ _ _ (.bool false) rfl rfl ?_)
  (try simp only [Act.put, st_a, st_0, st_s])
  refine wl_give rfl (g_move _ (.bool false) rfl ?_)
  (try simp only [Act.put, st_a, st_0, st_s])
  refine wl_skip rfl ?_
  (try simp only [Act.put, st_a, st_0, st_s])
  refine wl_skip rfl ?_
  (try simp only [Act.put, st_a, st_0, st_s])
  refine wl_skip rfl ?_
  (try simp only [Act.put, st_a, st_0, st_s])
  refine wl_give rfl (g_pickf _ _ _ (.bool false) rfl rfl ?_)
  (try simp only [Act.put, st_a, st_0, st_s])
  refine wl_give rfl (g_move _ (.bool false) rfl ?_)
  (try simp only [Act.put, st_a, st_0, st_s])
  refine wl_skip rfl ?_
  (try simp only [Act.put, st_a, st_0, st_s])
  refine wl_skip rfl ?_
  (try simp only [Act.put, st_a, st_0, st_s])
  refine wl_skip rfl ?_
  (try simp only [Act.put, st_a, st_0, st_s])
  refine wl_give rfl (g_pickf _ _ _ (.bool false) rfl rfl ?_)
  (try simp only [Act.put, st_a, st_0, st_s])
  refine wl_give rfl (g_move _ (.bool false) rfl ?_)
  (try simp only [Act.put, st_a, st_0, st_s])
  refine wl_skip rfl ?_
  (try simp only [Act.put, st_a, st_0, st_s])
  refine wl_skip rfl ?_
  (try simp only [Act.put, st_a, st_0, st_s])
  refine wl_skip rfl ?_
  (try simp only [Act.put, st_a, st_0, st_s])
  refine wl_give rfl (g_pickf _ _ _ (.bool false) rfl rfl ?_)
  (try simp only [Act.put, st_a, st_0, st_s])
  refine wl_give rfl (g_assign _ (.bool false) rfl ?_)
  (try simp only [Act.put, st_a, st_0, st_s])
  refine wl_nil ?_
  refine hK3 _ _ ?_
  (try clear hK3 K3)
  refine wp_ret ?_
  go_ret
  exact ⟨rfl, hM.below⟩
set_option maxHeartbeats 4000000 in
theorem rmay_5 (P : Pl) (w : World) (c0 : -1152921504606846976 ≤ P.st) (c1 : P.st ≤ 1152921504606846976) (c2 : 1 ≤ P.lg) (c3 : P.lg ≤ 1099511627776) (c4 : 1 ≤ P.dl) (c5 : ¬ P.dl ≤ 16) : Calls Tryd.prog 44 #[.agg (plc P).toArray] w fun e w' => e = .returned (.bool false) ∧ Below w.heap.size w w' := by
  have hM := Ms.refl w
  go_enter Tryd.func44, Tryd.ntmps44
  refine wp_seq_k (fun K1 hK1 => ?_)
  refine wl_region ?_
  refine wl_give rfl (g_box 34 _ (plc (P)) rfl ?_)
  intro w2 t_ b_
  replace hM := hM.new t_ b_
  clear t_ b_
  (try simp only [Act.put, st_a, st_0, st_s])
  refine wl_give rfl (g_assign _ (.bool false) rfl ?_)
  (try simp only [Act.put, st_a, st_0, st_s])
  refine wl_nil ?_
  refine hK1 _ _ ?_
  (try clear hK1 K1)
  refine wp_seq_k (fun K3 hK3 => ?_)
  (try simp only [List.append_eq, List.cons_append, List.nil_append])
  refine wl_region ?_
  refine wl_give rfl (g_fa 34 _ (w.heap.size) (0) (0) 0 rfl (faRp0 _ _ _) ?_)
  (try simp only [Act.put, st_a, st_0, st_s])
  refine wl_give rfl (g_ld1 2 _ (w.heap.size) (0) _ rfl (ld2 _ _ _ _ ((hM.get 0 rfl).cell (0) _ (rfl))) ?_)
  (try simp only [Act.put, st_a, st_0, st_s])
  refine wl_give rfl (g_igeq 2 _ _ .i64 ((P).st) (-1152921504606846976) true rfl rfl (decide_eq_true c0) ?_)
  (try simp only [Act.put, st_a, st_0, st_s])
  refine wl_give rfl (g_move _ (.bool true) rfl ?_)
  (try simp only [Act.put, st_a, st_0, st_s])
  refine wl_give rfl (g_fa 34 _ (w.heap.size) (0) (0) 0 rfl (faRp0 _ _ _) ?_)
  (try simp only [Act.put, st_a, st_0, st_s])
  refine wl_give rfl (g_ld1 2 _ (w.heap.size) (0) _ rfl (ld2 _ _ _ _ ((hM.get 0 rfl).cell (0) _ (rfl))) ?_)
  (try simp only [Act.put, st_a, st_0, st_s])
  refine wl_give rfl (g_ileq 2 _ _ .i64 ((P).st) (1152921504606846976) true rfl rfl (decide_eq_true c1) ?_)
  (try simp only [Act.put, st_a, st_0, st_s])
  refine wl_give rfl (g_pickt _ _ _ (.bool true) rfl rfl ?_)
  (try simp only [Act.put, st_a, st_0, st_s])
  refine wl_give rfl (g_move _ (.bool true) rfl ?_)
  (try simp only [Act.put, st_a, st_0, st_s])
  refine wl_give rfl (g_fa 34 _ (w.heap.size) (0) (1) 1 rfl (faRp1 _ _ _) ?_)
  (try simp only [Act.put, st_a, st_0, st_s])
  refine wl_give rfl (g_ld1 2 _ (w.heap.size) (1) _ rfl (ld2 _ _ _ _ ((hM.get 0 rfl).cell (1) _ (rfl))) ?_)
  (try simp only [Act.put, st_a, st_0, st_s])
  refine wl_give rfl (g_igeq 2 _ _ .i64 ((P).lg) (1) true rfl rfl (decide_eq_true c2) ?_)
  (try simp only [Act.put, st_a, st_0, st_s])
  refine wl_give rfl (g_pickt _ _ _ (.bool true) rfl rfl ?_)
  (try simp only [Act.put, st_a, st_0, st_s])
  refine wl_give rfl (g_move _ (.bool true) rfl ?_)
  (try simp only [Act.put, st_a, st_0, st_s])
  refine wl_give rfl (g_fa 34 _ (w.heap.size) (0) (1) 1 rfl (faRp1 _ _ _) ?_)
  (try simp only [Act.put, st_a, st_0, st_s])
  refine wl_give rfl (g_ld1 2 _ (w.heap.size) (1) _ rfl (ld2 _ _ _ _ ((hM.get 0 rfl).cell (1) _ (rfl))) ?_)
  (try simp only [Act.put, st_a, st_0, st_s])
  refine wl_give rfl (g_ileq 2 _ _ .i64 ((P).lg) (1099511627776) true rfl rfl (decide_eq_true c3) ?_)
  (try simp only [Act.put, st_a, st_0, st_s])
  refine wl_give rfl (g_pickt _ _ _ (.bool true) rfl rfl ?_)
  (try simp only [Act.put, st_a, st_0, st_s])
  refine wl_give rfl (g_move _ (.bool true) rfl ?_)
  (try simp only [Act.put, st_a, st_0, st_s])
  refine wl_give rfl (g_fa 34 _ (w.heap.size) (0) (2) 2 rfl (faRp2 _ _ _) ?_)
  (try simp only [Act.put, st_a, st_0, st_s])
  refine wl_give rfl (g_ld1 3 _ (w.heap.size) (2) _ rfl (ld3 _ _ _ _ ((hM.get 0 rfl).cell (2) _ (rfl))) ?_)
  (try simp only [Act.put, st_a, st_0, st_s])
  refine wl_give rfl (g_igeq 3 _ _ .i64 ((P).dl) (1) true rfl rfl (decide_eq_true c4) ?_)
  (try simp only [Act.put, st_a, st_0, st_s])
  refine wl_give rfl (g_pickt _ _ _ (.bool true) rfl rfl ?_)
  (try simp only [Act.put, st_a, st_0, st_s])
  refine wl_give rfl (g_move _ (.bool true) rfl ?_)
  (try simp only [Act.put, st_a, st_0, st_s])
  refine wl_give rfl (g_fa 34 _ (w.heap.size) (0) (2) 2 rfl (faRp2 _ _ _) ?_)
  (try simp only [Act.put, st_a, st_0, st_s])
  refine wl_give rfl (g_ld1 3 _ (w.heap.size) (2) _ rfl (ld3 _ _ _ _ ((hM.get 0 rfl).cell (2) _ (rfl))) ?_)
  (try simp only [Act.put, st_a, st_0, st_s])
  refine wl_give rfl (g_ileq 3 _ _ .i64 ((P).dl) (16) false rfl rfl (decide_eq_false c5) ?_)
  (try simp only [Act.put, st_a, st_0, st_s])
  refine wl_give rfl (g_pickt _ _ _ (.bool false) rfl rfl ?_)
  (try simp only [Act.put, st_a, st_0, st_s])
  refine wl_give rfl (g_move _ (.bool false) rfl ?_)
  (try simp only [Act.put, st_a, st_0, st_s])
  refine wl_skip rfl ?_
  (try simp only [Act.put, st_a, st_0, st_s])
  refine wl_skip rfl ?_
  (try simp only [Act.put, st_a, st_0, st_s])
  refine wl_skip rfl ?_
  (try simp only [Act.put, st_a, st_0, st_s])
  refine wl_give rfl (g_pickf _ _ _ (.bool false) rfl rfl ?_)
  (try simp only [Act.put, st_a, st_0, st_s])
  refine wl_give rfl (g_move _ (.bool false) rfl ?_)
  (try simp only [Act.put, st_a, st_0, st_s])
  refine wl_skip rfl ?_
  (try simp only [Act.put, st_a, st_0, st_s])
  refine wl_skip rfl ?_
  (try simp only [Act.put, st_a, st_0, st_s])
  refine wl_skip rfl ?_
  (try simp only [Act.put, st_a, st_0, st_s])
  refine wl_give rfl (g_pickf _ _ _ (.bool false) rfl rfl ?_)
  (try simp only [Act.put, st_a, st_0, st_s])
  refine wl_give rfl (g_assign _ (.bool false) rfl ?_)
  (try simp only [Act.put, st_a, st_0, st_s])
  refine wl_nil ?_
  refine hK3 _ _ ?_
  (try clear hK3 K3)
  refine wp_ret ?_
  go_ret
  exact ⟨rfl, hM.below⟩
set_option maxHeartbeats 4000000 in
theorem rmay_6 (P : Pl) (w : World) (c0 : -1152921504606846976 ≤ P.st) (c1 : P.st ≤ 1152921504606846976) (c2 : 1 ≤ P.lg) (c3 : P.lg ≤ 1099511627776) (c4 : 1 ≤ P.dl) (c5 : P.dl ≤ 16) (c6 : ¬ 1 ≤ P.ct) : Calls Tryd.prog 44 #[.agg (plc P).toArray] w fun e w' => e = .returned (.bool false) ∧ Below w.heap.size w w' := by
  have hM := Ms.refl w
  go_enter Tryd.func44, Tryd.ntmps44
  refine wp_seq_k (fun K1 hK1 => ?_)
  refine wl_region ?_
  refine wl_give rfl (g_box 34 _ (plc (P)) rfl ?_)
  intro w2 t_ b_
  replace hM := hM.new t_ b_
  clear t_ b_
  (try simp only [Act.put, st_a, st_0, st_s])
  refine wl_give rfl (g_assign _ (.bool false) rfl ?_)
  (try simp only [Act.put, st_a, st_0, st_s])
  refine wl_nil ?_
  refine hK1 _ _ ?_
  (try clear hK1 K1)
  refine wp_seq_k (fun K3 hK3 => ?_)
  (try simp only [List.append_eq, List.cons_append, List.nil_append])
  refine wl_region ?_
  refine wl_give rfl (g_fa 34 _ (w.heap.size) (0) (0) 0 rfl (faRp0 _ _ _) ?_)
  (try simp only [Act.put, st_a, st_0, st_s])
  refine wl_give rfl (g_ld1 2 _ (w.heap.size) (0) _ rfl (ld2 _ _ _ _ ((hM.get 0 rfl).cell (0) _ (rfl))) ?_)
  (try simp only [Act.put, st_a, st_0, st_s])
  refine wl_give rfl (g_igeq 2 _ _ .i64 ((P).st) (-1152921504606846976) true rfl rfl (decide_eq_true c0) ?_)
  (try simp only [Act.put, st_a, st_0, st_s])
  refine wl_give rfl (g_move _ (.bool true) rfl ?_)
  (try simp only [Act.put, st_a, st_0, st_s])
  refine wl_give rfl (g_fa 34 _ (w.heap.size) (0) (0) 0 rfl (faRp0 _ _ _) ?_)
  (try simp only [Act.put, st_a, st_0, st_s])
  refine wl_give rfl (g_ld1 2 _ (w.heap.size) (0) _ rfl (ld2 _ _ _ _ ((hM.get 0 rfl).cell (0) _ (rfl))) ?_)
  (try simp only [Act.put, st_a, st_0, st_s])
  refine wl_give rfl (g_ileq 2 _ _ .i64 ((P).st) (1152921504606846976) true rfl rfl (decide_eq_true c1) ?_)
  (try simp only [Act.put, st_a, st_0, st_s])
  refine wl_give rfl (g_pickt _ _ _ (.bool true) rfl rfl ?_)
  (try simp only [Act.put, st_a, st_0, st_s])
  refine wl_give rfl (g_move _ (.bool true) rfl ?_)
  (try simp only [Act.put, st_a, st_0, st_s])
  refine wl_give rfl (g_fa 34 _ (w.heap.size) (0) (1) 1 rfl (faRp1 _ _ _) ?_)
  (try simp only [Act.put, st_a, st_0, st_s])
  refine wl_give rfl (g_ld1 2 _ (w.heap.size) (1) _ rfl (ld2 _ _ _ _ ((hM.get 0 rfl).cell (1) _ (rfl))) ?_)
  (try simp only [Act.put, st_a, st_0, st_s])
  refine wl_give rfl (g_igeq 2 _ _ .i64 ((P).lg) (1) true rfl rfl (decide_eq_true c2) ?_)
  (try simp only [Act.put, st_a, st_0, st_s])
  refine wl_give rfl (g_pickt _ _ _ (.bool true) rfl rfl ?_)
  (try simp only [Act.put, st_a, st_0, st_s])
  refine wl_give rfl (g_move _ (.bool true) rfl ?_)
  (try simp only [Act.put, st_a, st_0, st_s])
  refine wl_give rfl (g_fa 34 _ (w.heap.size) (0) (1) 1 rfl (faRp1 _ _ _) ?_)
  (try simp only [Act.put, st_a, st_0, st_s])
  refine wl_give rfl (g_ld1 2 _ (w.heap.size) (1) _ rfl (ld2 _ _ _ _ ((hM.get 0 rfl).cell (1) _ (rfl))) ?_)
  (try simp only [Act.put, st_a, st_0, st_s])
  refine wl_give rfl (g_ileq 2 _ _ .i64 ((P).lg) (1099511627776) true rfl rfl (decide_eq_true c3) ?_)
  (try simp only [Act.put, st_a, st_0, st_s])
  refine wl_give rfl (g_pickt _ _ _ (.bool true) rfl rfl ?_)
  (try simp only [Act.put, st_a, st_0, st_s])
  refine wl_give rfl (g_move _ (.bool true) rfl ?_)
  (try simp only [Act.put, st_a, st_0, st_s])
  refine wl_give rfl (g_fa 34 _ (w.heap.size) (0) (2) 2 rfl (faRp2 _ _ _) ?_)
  (try simp only [Act.put, st_a, st_0, st_s])
  refine wl_give rfl (g_ld1 3 _ (w.heap.size) (2) _ rfl (ld3 _ _ _ _ ((hM.get 0 rfl).cell (2) _ (rfl))) ?_)
  (try simp only [Act.put, st_a, st_0, st_s])
  refine wl_give rfl (g_igeq 3 _ _ .i64 ((P).dl) (1) true rfl rfl (decide_eq_true c4) ?_)
  (try simp only [Act.put, st_a, st_0, st_s])
  refine wl_give rfl (g_pickt _ _ _ (.bool true) rfl rfl ?_)
  (try simp only [Act.put, st_a, st_0, st_s])
  refine wl_give rfl (g_move _ (.bool true) rfl ?_)
  (try simp only [Act.put, st_a, st_0, st_s])
  refine wl_give rfl (g_fa 34 _ (w.heap.size) (0) (2) 2 rfl (faRp2 _ _ _) ?_)
  (try simp only [Act.put, st_a, st_0, st_s])
  refine wl_give rfl (g_ld1 3 _ (w.heap.size) (2) _ rfl (ld3 _ _ _ _ ((hM.get 0 rfl).cell (2) _ (rfl))) ?_)
  (try simp only [Act.put, st_a, st_0, st_s])
  refine wl_give rfl (g_ileq 3 _ _ .i64 ((P).dl) (16) true rfl rfl (decide_eq_true c5) ?_)
  (try simp only [Act.put, st_a, st_0, st_s])
  refine wl_give rfl (g_pickt _ _ _ (.bool true) rfl rfl ?_)
  (try simp only [Act.put, st_a, st_0, st_s])
  refine wl_give rfl (g_move _ (.bool true) rfl ?_)
  (try simp only [Act.put, st_a, st_0, st_s])
  refine wl_give rfl (g_fa 34 _ (w.heap.size) (0) (3) 3 rfl (faRp3 _ _ _) ?_)
  (try simp only [Act.put, st_a, st_0, st_s])
  refine wl_give rfl (g_ld1 3 _ (w.heap.size) (3) _ rfl (ld3 _ _ _ _ ((hM.get 0 rfl).cell (3) _ (rfl))) ?_)
  (try simp only [Act.put, st_a, st_0, st_s])
  refine wl_give rfl (g_igeq 3 _ _ .i64 ((P).ct) (1) false rfl rfl (decide_eq_false c6) ?_)
  (try simp only [Act.put, st_a, st_0, st_s])
  refine wl_give rfl (g_pickt _ _ _ (.bool false) rfl rfl ?_)
  (try simp only [Act.put, st_a, st_0, st_s])
  refine wl_give rfl (g_move _ (.bool false) rfl ?_)
  (try simp only [Act.put, st_a, st_0, st_s])
  refine wl_skip rfl ?_
  (try simp only [Act.put, st_a, st_0, st_s])
  refine wl_skip rfl ?_
  (try simp only [Act.put, st_a, st_0, st_s])
  refine wl_skip rfl ?_
  (try simp only [Act.put, st_a, st_0, st_s])
  refine wl_give rfl (g_pickf _ _ _ (.bool false) rfl rfl ?_)
  (try simp only [Act.put, st_a, st_0, st_s])
  refine wl_give rfl (g_assign _ (.bool false) rfl ?_)
  (try simp only [Act.put, st_a, st_0, st_s])
  refine wl_nil ?_
  refine hK3 _ _ ?_
  (try clear hK3 K3)
  refine wp_ret ?_
  go_ret
  exact ⟨rfl, hM.below⟩
set_option maxHeartbeats 4000000 in
theorem rmay_7 (P : Pl) (w : World) (c0 : -1152921504606846976 ≤ P.st) (c1 : P.st ≤ 1152921504606846976) (c2 : 1 ≤ P.lg) (c3 : P.lg ≤ 1099511627776) (c4 : 1 ≤ P.dl) (c5 : P.dl ≤ 16) (c6 : 1 ≤ P.ct) (c7 : ¬ P.ct ≤ 1024) : Calls Tryd.prog 44 #[.agg (plc P).toArray] w fun e w' => e = .returned (.bool false) ∧ Below w.heap.size w w' := by
  have hM := Ms.refl w
  go_enter Tryd.func44, Tryd.ntmps44
  refine wp_seq_k (fun K1 hK1 => ?_)
  refine wl_region ?_
  refine wl_give rfl (g_box 34 _ (plc (P)) rfl ?_)
  intro w2 t_ b_
  replace hM := hM.new t_ b_
  clear t_ b_
  (try simp only [Act.put, st_a, st_0, st_s])
  refine wl_give rfl (g_assign _ (.bool false) rfl ?_)
  (try simp only [Act.put, st_a, st_0, st_s])
  refine wl_nil ?_
  refine hK1 _ _ ?_
  (try clear hK1 K1)
  refine wp_seq_k (fun K3 hK3 => ?_)
  (try simp only [List.append_eq, List.cons_append, List.nil_append])
  refine wl_region ?_
  refine wl_give rfl (g_fa 34 _ (w.heap.size) (0) (0) 0 rfl (faRp0 _ _ _) ?_)
  (try simp only [Act.put, st_a, st_0, st_s])
  refine wl_give rfl (g_ld1 2 _ (w.heap.size) (0) _ rfl (ld2 _ _ _ _ ((hM.get 0 rfl).cell (0) _ (rfl))) ?_)
  (try simp only [Act.put, st_a, st_0, st_s])
  refine wl_give rfl (g_igeq 2 _ _ .i64 ((P).st) (-1152921504606846976) true rfl rfl (decide_eq_true c0) ?_)
  (try simp only [Act.put, st_a, st_0, st_s])
  refine wl_give rfl (g_move _ (.bool true) rfl ?_)
  (try simp only [Act.put, st_a, st_0, st_s])
  refine wl_give rfl (g_fa 34 _ (w.heap.size) (0) (0) 0 rfl (faRp0 _ _ _) ?_)
  (try simp only [Act.put, st_a, st_0, st_s])
  refine wl_give rfl (g_ld1 2 _ (w.heap.size) (0) _ rfl (ld2 _ _ _ _ ((hM.get 0 rfl).cell (0) _ (rfl))) ?_)
  (try simp only [Act.put, st_a, st_0, st_s])
  refine wl_give rfl (g_ileq 2 _ _ .i64 ((P).st) (1152921504606846976) true rfl rfl (decide_eq_true c1) ?_)
  (try simp only [Act.put, st_a, st_0, st_s])
  refine wl_give rfl (g_pickt _ _ _ (.bool true) rfl rfl ?_)
  (try simp only [Act.put, st_a, st_0, st_s])
  refine wl_give rfl (g_move _ (.bool true) rfl ?_)
  (try simp only [Act.put, st_a, st_0, st_s])
  refine wl_give rfl (g_fa 34 _ (w.heap.size) (0) (1) 1 rfl (faRp1 _ _ _) ?_)
  (try simp only [Act.put, st_a, st_0, st_s])
  refine wl_give rfl (g_ld1 2 _ (w.heap.size) (1) _ rfl (ld2 _ _ _ _ ((hM.get 0 rfl).cell (1) _ (rfl))) ?_)
  (try simp only [Act.put, st_a, st_0, st_s])
  refine wl_give rfl (g_igeq 2 _ _ .i64 ((P).lg) (1) true rfl rfl (decide_eq_true c2) ?_)
  (try simp only [Act.put, st_a, st_0, st_s])
  refine wl_give rfl (g_pickt _ _ _ (.bool true) rfl rfl ?_)
  (try simp only [Act.put, st_a, st_0, st_s])
  refine wl_give rfl (g_move _ (.bool true) rfl ?_)
  (try simp only [Act.put, st_a, st_0, st_s])
  refine wl_give rfl (g_fa 34 _ (w.heap.size) (0) (1) 1 rfl (faRp1 _ _ _) ?_)
  (try simp only [Act.put, st_a, st_0, st_s])
  refine wl_give rfl (g_ld1 2 _ (w.heap.size) (1) _ rfl (ld2 _ _ _ _ ((hM.get 0 rfl).cell (1) _ (rfl))) ?_)
  (try simp only [Act.put, st_a, st_0, st_s])
  refine wl_give rfl (g_ileq 2 _ _ .i64 ((P).lg) (1099511627776) true rfl rfl (decide_eq_true c3) ?_)
  (try simp only [Act.put, st_a, st_0, st_s])
  refine wl_give rfl (g_pickt _ _ _ (.bool true) rfl rfl ?_)
  (try simp only [Act.put, st_a, st_0, st_s])
  refine wl_give rfl (g_move _ (.bool true) rfl ?_)
  (try simp only [Act.put, st_a, st_0, st_s])
  refine wl_give rfl (g_fa 34 _ (w.heap.size) (0) (2) 2 rfl (faRp2 _ _ _) ?_)
  (try simp only [Act.put, st_a, st_0, st_s])
  refine wl_give rfl (g_ld1 3 _ (w.heap.size) (2) _ rfl (ld3 _ _ _ _ ((hM.get 0 rfl).cell (2) _ (rfl))) ?_)
  (try simp only [Act.put, st_a, st_0, st_s])
  refine wl_give rfl (g_igeq 3 _ _ .i64 ((P).dl) (1) true rfl rfl (decide_eq_true c4) ?_)
  (try simp only [Act.put, st_a, st_0, st_s])
  refine wl_give rfl (g_pickt _ _ _ (.bool true) rfl rfl ?_)
  (try simp only [Act.put, st_a, st_0, st_s])
  refine wl_give rfl (g_move _ (.bool true) rfl ?_)
  (try simp only [Act.put, st_a, st_0, st_s])
  refine wl_give rfl (g_fa 34 _ (w.heap.size) (0) (2) 2 rfl (faRp2 _ _ _) ?_)
  (try simp only [Act.put, st_a, st_0, st_s])
  refine wl_give rfl (g_ld1 3 _ (w.heap.size) (2) _ rfl (ld3 _ _ _ _ ((hM.get 0 rfl).cell (2) _ (rfl))) ?_)
  (try simp only [Act.put, st_a, st_0, st_s])
  refine wl_give rfl (g_ileq 3 _ _ .i64 ((P).dl) (16) true rfl rfl (decide_eq_true c5) ?_)
  (try simp only [Act.put, st_a, st_0, st_s])
  refine wl_give rfl (g_pickt _ _ _ (.bool true) rfl rfl ?_)
  (try simp only [Act.put, st_a, st_0, st_s])
  refine wl_give rfl (g_move _ (.bool true) rfl ?_)
  (try simp only [Act.put, st_a, st_0, st_s])
  refine wl_give rfl (g_fa 34 _ (w.heap.size) (0) (3) 3 rfl (faRp3 _ _ _) ?_)
  (try simp only [Act.put, st_a, st_0, st_s])
  refine wl_give rfl (g_ld1 3 _ (w.heap.size) (3) _ rfl (ld3 _ _ _ _ ((hM.get 0 rfl).cell (3) _ (rfl))) ?_)
  (try simp only [Act.put, st_a, st_0, st_s])
  refine wl_give rfl (g_igeq 3 _ _ .i64 ((P).ct) (1) true rfl rfl (decide_eq_true c6) ?_)
  (try simp only [Act.put, st_a, st_0, st_s])
  refine wl_give rfl (g_pickt _ _ _ (.bool true) rfl rfl ?_)
  (try simp only [Act.put, st_a, st_0, st_s])
  refine wl_give rfl (g_move _ (.bool true) rfl ?_)
  (try simp only [Act.put, st_a, st_0, st_s])
  refine wl_give rfl (g_fa 34 _ (w.heap.size) (0) (3) 3 rfl (faRp3 _ _ _) ?_)
  (try simp only [Act.put, st_a, st_0, st_s])
  refine wl_give rfl (g_ld1 3 _ (w.heap.size) (3) _ rfl (ld3 _ _ _ _ ((hM.get 0 rfl).cell (3) _ (rfl))) ?_)
  (try simp only [Act.put, st_a, st_0, st_s])
  refine wl_give rfl (g_ileq 3 _ _ .i64 ((P).ct) (1024) false rfl rfl (decide_eq_false c7) ?_)
  (try simp only [Act.put, st_a, st_0, st_s])
  refine wl_give rfl (g_pickt _ _ _ (.bool false) rfl rfl ?_)
  (try simp only [Act.put, st_a, st_0, st_s])
  refine wl_give rfl (g_assign _ (.bool false) rfl ?_)
  (try simp only [Act.put, st_a, st_0, st_s])
  refine wl_nil ?_
  refine hK3 _ _ ?_
  (try clear hK3 K3)
  refine wp_ret ?_
  go_ret
  exact ⟨rfl, hM.below⟩
set_option maxHeartbeats 4000000 in
theorem rmay_8 (P : Pl) (w : World) (c0 : -1152921504606846976 ≤ P.st) (c1 : P.st ≤ 1152921504606846976) (c2 : 1 ≤ P.lg) (c3 : P.lg ≤ 1099511627776) (c4 : 1 ≤ P.dl) (c5 : P.dl ≤ 16) (c6 : 1 ≤ P.ct) (c7 : P.ct ≤ 1024) : Calls Tryd.prog 44 #[.agg (plc P).toArray] w fun e w' => e = .returned (.bool true) ∧ Below w.heap.size w w' := by
  have hM := Ms.refl w
  go_enter Tryd.func44, Tryd.ntmps44
  refine wp_seq_k (fun K1 hK1 => ?_)
  refine wl_region ?_
  refine wl_give rfl (g_box 34 _ (plc (P)) rfl ?_)
  intro w2 t_ b_
  replace hM := hM.new t_ b_
  clear t_ b_
  (try simp only [Act.put, st_a, st_0, st_s])
  refine wl_give rfl (g_assign _ (.bool false) rfl ?_)
  (try simp only [Act.put, st_a, st_0, st_s])
  refine wl_nil ?_
  refine hK1 _ _ ?_
  (try clear hK1 K1)
  refine wp_seq_k (fun K3 hK3 => ?_)
  (try simp only [List.append_eq, List.cons_append, List.nil_append])
  refine wl_region ?_
  refine wl_give rfl (g_fa 34 _ (w.heap.size) (0) (0) 0 rfl (faRp0 _ _ _) ?_)
  (try simp only [Act.put, st_a, st_0, st_s])
  refine wl_give rfl (g_ld1 2 _ (w.heap.size) (0) _ rfl (ld2 _ _ _ _ ((hM.get 0 rfl).cell (0) _ (rfl))) ?_)
  (try simp only [Act.put, st_a, st_0, st_s])
  refine wl_give rfl (g_igeq 2 _ _ .i64 ((P).st) (-1152921504606846976) true rfl rfl (decide_eq_true c0) ?_)
  (try simp only [Act.put, st_a, st_0, st_s])
  refine wl_give rfl (g_move _ (.bool true) rfl ?_)
  (try simp only [Act.put, st_a, st_0, st_s])
  refine wl_give rfl (g_fa 34 _ (w.heap.size) (0) (0) 0 rfl (faRp0 _ _ _) ?_)
  (try simp only [Act.put, st_a, st_0, st_s])
  refine wl_give rfl (g_ld1 2 _ (w.heap.size) (0) _ rfl (ld2 _ _ _ _ ((hM.get 0 rfl).cell (0) _ (rfl))) ?_)
  (try simp only [Act.put, st_a, st_0, st_s])
  refine wl_give rfl (g_ileq 2 _ _ .i64 ((P).st) (1152921504606846976) true rfl rfl (decide_eq_true c1) ?_)
  (try simp only [Act.put, st_a, st_0, st_s])
  refine wl_give rfl (g_pickt _ _ _ (.bool true) rfl rfl ?_)
  (try simp only [Act.put, st_a, st_0, st_s])
  refine wl_give rfl (g_move _ (.bool true) rfl ?_)
  (try simp only [Act.put, st_a, st_0, st_s])
  refine wl_give rfl (g_fa 34 _ (w.heap.size) (0) (1) 1 rfl (faRp1 _ _ _) ?_)
  (try simp only [Act.put, st_a, st_0, st_s])
  refine wl_give rfl (g_ld1 2 _ (w.heap.size) (1) _ rfl (ld2 _ _ _ _ ((hM.get 0 rfl).cell (1) _ (rfl))) ?_)
  (try simp only [Act.put, st_a, st_0, st_s])
  refine wl_give rfl (g_igeq 2 _ _ .i64 ((P).lg) (1) true rfl rfl (decide_eq_true c2) ?_)
  (try simp only [Act.put, st_a, st_0, st_s])
  refine wl_give rfl (g_pickt _ _ _ (.bool true) rfl rfl ?_)
  (try simp only [Act.put, st_a, st_0, st_s])
  refine wl_give rfl (g_move _ (.bool true) rfl ?_)
  (try simp only [Act.put, st_a, st_0, st_s])
  refine wl_give rfl (g_fa 34 _ (w.heap.size) (0) (1) 1 rfl (faRp1 _ _ _) ?_)
  (try simp only [Act.put, st_a, st_0, st_s])
  refine wl_give rfl (g_ld1 2 _ (w.heap.size) (1) _ rfl (ld2 _ _ _ _ ((hM.get 0 rfl).cell (1) _ (rfl))) ?_)
  (try simp only [Act.put, st_a, st_0, st_s])
  refine wl_give rfl (g_ileq 2 _ _ .i64 ((P).lg) (1099511627776) true rfl rfl (decide_eq_true c3) ?_)
  (try simp only [Act.put, st_a, st_0, st_s])
  refine wl_give rfl (g_pickt _ _ _ (.bool true) rfl rfl ?_)
  (try simp only [Act.put, st_a, st_0, st_s])
  refine wl_give rfl (g_move _ (.bool true) rfl ?_)
  (try simp only [Act.put, st_a, st_0, st_s])
  refine wl_give rfl (g_fa 34 _ (w.heap.size) (0) (2) 2 rfl (faRp2 _ _ _) ?_)
  (try simp only [Act.put, st_a, st_0, st_s])
  refine wl_give rfl (g_ld1 3 _ (w.heap.size) (2) _ rfl (ld3 _ _ _ _ ((hM.get 0 rfl).cell (2) _ (rfl))) ?_)
  (try simp only [Act.put, st_a, st_0, st_s])
  refine wl_give rfl (g_igeq 3 _ _ .i64 ((P).dl) (1) true rfl rfl (decide_eq_true c4) ?_)
  (try simp only [Act.put, st_a, st_0, st_s])
  refine wl_give rfl (g_pickt _ _ _ (.bool true) rfl rfl ?_)
  (try simp only [Act.put, st_a, st_0, st_s])
  refine wl_give rfl (g_move _ (.bool true) rfl ?_)
  (try simp only [Act.put, st_a, st_0, st_s])
  refine wl_give rfl (g_fa 34 _ (w.heap.size) (0) (2) 2 rfl (faRp2 _ _ _) ?_)
  (try simp only [Act.put, st_a, st_0, st_s])
  refine wl_give rfl (g_ld1 3 _ (w.heap.size) (2) _ rfl (ld3 _ _ _ _ ((hM.get 0 rfl).cell (2) _ (rfl))) ?_)
  (try simp only [Act.put, st_a, st_0, st_s])
  refine wl_give rfl (g_ileq 3 _ _ .i64 ((P).dl) (16) true rfl rfl (decide_eq_true c5) ?_)
  (try simp only [Act.put, st_a, st_0, st_s])
  refine wl_give rfl (g_pickt _ _ _ (.bool true) rfl rfl ?_)
  (try simp only [Act.put, st_a, st_0, st_s])
  refine wl_give rfl (g_move _ (.bool true) rfl ?_)
  (try simp only [Act.put, st_a, st_0, st_s])
  refine wl_give rfl (g_fa 34 _ (w.heap.size) (0) (3) 3 rfl (faRp3 _ _ _) ?_)
  (try simp only [Act.put, st_a, st_0, st_s])
  refine wl_give rfl (g_ld1 3 _ (w.heap.size) (3) _ rfl (ld3 _ _ _ _ ((hM.get 0 rfl).cell (3) _ (rfl))) ?_)
  (try simp only [Act.put, st_a, st_0, st_s])
  refine wl_give rfl (g_igeq 3 _ _ .i64 ((P).ct) (1) true rfl rfl (decide_eq_true c6) ?_)
  (try simp only [Act.put, st_a, st_0, st_s])
  refine wl_give rfl (g_pickt _ _ _ (.bool true) rfl rfl ?_)
  (try simp only [Act.put, st_a, st_0, st_s])
  refine wl_give rfl (g_move _ (.bool true) rfl ?_)
  (try simp only [Act.put, st_a, st_0, st_s])
  refine wl_give rfl (g_fa 34 _ (w.heap.size) (0) (3) 3 rfl (faRp3 _ _ _) ?_)
  (try simp only [Act.put, st_a, st_0, st_s])
  refine wl_give rfl (g_ld1 3 _ (w.heap.size) (3) _ rfl (ld3 _ _ _ _ ((hM.get 0 rfl).cell (3) _ (rfl))) ?_)
  (try simp only [Act.put, st_a, st_0, st_s])
  refine wl_give rfl (g_ileq 3 _ _ .i64 ((P).ct) (1024) true rfl rfl (decide_eq_true c7) ?_)
  (try simp only [Act.put, st_a, st_0, st_s])
  refine wl_give rfl (g_pickt _ _ _ (.bool true) rfl rfl ?_)
  (try simp only [Act.put, st_a, st_0, st_s])
  refine wl_give rfl (g_assign _ (.bool true) rfl ?_)
  (try simp only [Act.put, st_a, st_0, st_s])
  refine wl_nil ?_
  refine hK3 _ _ ?_
  (try clear hK3 K3)
  refine wp_ret ?_
  go_ret
  exact ⟨rfl, hM.below⟩
theorem rmay_any (P : Pl) (w : World) : Calls Tryd.prog 44 #[.agg (plc P).toArray] w fun e w' => e = .returned (.bool (okP P)) ∧ Below w.heap.size w w' := by
  by_cases c0 : -1152921504606846976 ≤ P.st
  case neg =>
    rw [show okP P = false from decide_eq_false (fun h => c0 (by have h : POk P := h; omega))]
    exact rmay_0 P w c0
  by_cases c1 : P.st ≤ 1152921504606846976
  case neg =>
    rw [show okP P = false from decide_eq_false (fun h => c1 (by have h : POk P := h; omega))]
    exact rmay_1 P w c0 c1
  by_cases c2 : 1 ≤ P.lg
  case neg =>
    rw [show okP P = false from decide_eq_false (fun h => c2 (by have h : POk P := h; omega))]
    exact rmay_2 P w c0 c1 c2
  by_cases c3 : P.lg ≤ 1099511627776
  case neg =>
    rw [show okP P = false from decide_eq_false (fun h => c3 (by have h : POk P := h; omega))]
    exact rmay_3 P w c0 c1 c2 c3
  by_cases c4 : 1 ≤ P.dl
  case neg =>
    rw [show okP P = false from decide_eq_false (fun h => c4 (by have h : POk P := h; omega))]
    exact rmay_4 P w c0 c1 c2 c3 c4
  by_cases c5 : P.dl ≤ 16
  case neg =>
    rw [show okP P = false from decide_eq_false (fun h => c5 (by have h : POk P := h; omega))]
    exact rmay_5 P w c0 c1 c2 c3 c4 c5
  by_cases c6 : 1 ≤ P.ct
  case neg =>
    rw [show okP P = false from decide_eq_false (fun h => c6 (by have h : POk P := h; omega))]
    exact rmay_6 P w c0 c1 c2 c3 c4 c5 c6
  by_cases c7 : P.ct ≤ 1024
  case neg =>
    rw [show okP P = false from decide_eq_false (fun h => c7 (by have h : POk P := h; omega))]
    exact rmay_7 P w c0 c1 c2 c3 c4 c5 c6 c7
  rw [show okP P = true from decide_eq_true ⟨c0, c1, c2, c3, c4, c5, c6, c7⟩]
  exact rmay_8 P w c0 c1 c2 c3 c4 c5 c6 c7
theorem rmay_yes (P : Pl) (w : World) (h : POk P) : Calls Tryd.prog 44 #[.agg (plc P).toArray] w fun e w' => e = .returned (.bool true) ∧ Below w.heap.size w w' := by
  have e := rmay_any P w
  rwa [show okP P = true from decide_eq_true h] at e
theorem rmay_no (P : Pl) (w : World) (h : ¬ POk P) : Calls Tryd.prog 44 #[.agg (plc P).toArray] w fun e w' => e = .returned (.bool false) ∧ Below w.heap.size w w' := by
  have e := rmay_any P w
  rwa [show okP P = false from decide_eq_false h] at e
set_option maxHeartbeats 4000000 in
theorem rbg_bad (P : Pl) (i : Int) (w : World) (hk : ¬ POk P) : Calls Tryd.prog 23 #[.agg (plc P).toArray, .int .i64 i] w fun e w' => e = .returned (.tuple #[.int .i64 0, .int .i64 1]) ∧ Below w.heap.size w w' := by
  have hM := Ms.refl w
  go_enter Tryd.func23, Tryd.ntmps23
  refine wp_seq_k (fun K1 hK1 => ?_)
  refine wl_region ?_
  refine wl_give rfl (g_box 34 _ (plc (P)) rfl ?_)
  intro w2 t_ b_
  replace hM := hM.new t_ b_
  clear t_ b_
  (try simp only [Act.put, st_a, st_0, st_s])
  refine wl_give rfl (g_assign _ (.int .i64 (0)) rfl ?_)
  (try simp only [Act.put, st_a, st_0, st_s])
  refine wl_give rfl (g_assign _ (.int .i64 (0)) rfl ?_)
  (try simp only [Act.put, st_a, st_0, st_s])
  refine wl_nil ?_
  refine hK1 _ _ ?_
  (try clear hK1 K1)
  refine wp_seq_k (fun K3 hK3 => ?_)
  refine wp_seq_k (fun K4 hK4 => ?_)
  refine wl_region ?_
  refine wl_give rfl (g_load_all 34 _ (w.heap.size) (plc (P)) 34 _ rfl (hM.get 0 rfl) Tryd.underlying34 rfl (szRp _) ?_)
  (try simp only [Act.put, st_a, st_0, st_s])
  refine wl_give rfl (g_call 44 _ _ [.agg (plc (P)).toArray] (kf44 _ _) rfl ((rmay_no P w2 hk).mono ?_))
  rintro e w5 ⟨rfl, t_⟩
  refine ⟨_, rfl, ?_⟩
  replace hM := hM.call t_
  clear t_
  (try simp only [Act.put, st_a, st_0, st_s])
  refine wl_give rfl (g_unot 4 _ false rfl ?_)
  (try simp only [Act.put, st_a, st_0, st_s])
  refine wl_give rfl (g_move _ (.bool true) rfl ?_)
  (try simp only [Act.put, st_a, st_0, st_s])
  refine wl_skip rfl ?_
  (try simp only [Act.put, st_a, st_0, st_s])
  refine wl_skip rfl ?_
  (try simp only [Act.put, st_a, st_0, st_s])
  refine wl_give rfl (g_pickt _ _ _ (.bool true) rfl rfl ?_)
  (try simp only [Act.put, st_a, st_0, st_s])
  refine wl_give rfl (g_move _ (.bool true) rfl ?_)
  (try simp only [Act.put, st_a, st_0, st_s])
  refine wl_skip rfl ?_
  (try simp only [Act.put, st_a, st_0, st_s])
  refine wl_skip rfl ?_
  (try simp only [Act.put, st_a, st_0, st_s])
  refine wl_skip rfl ?_
  (try simp only [Act.put, st_a, st_0, st_s])
  refine wl_skip rfl ?_
  (try simp only [Act.put, st_a, st_0, st_s])
  refine wl_skip rfl ?_
  (try simp only [Act.put, st_a, st_0, st_s])
  refine wl_give rfl (g_pickt _ _ _ (.bool true) rfl rfl ?_)
  (try simp only [Act.put, st_a, st_0, st_s])
  refine wl_nil ?_
  refine hK4 _ _ ?_
  (try clear hK4 K4)
  refine wp_cond_true rfl ?_
  refine wp_seq_k (fun K6 hK6 => ?_)
  refine wl_region ?_
  refine wl_give rfl (g_assign _ (.int .i64 (0)) rfl ?_)
  (try simp only [Act.put, st_a, st_0, st_s])
  refine wl_give rfl (g_assign _ (.int .i64 (1)) rfl ?_)
  (try simp only [Act.put, st_a, st_0, st_s])
  refine wl_nil ?_
  refine hK6 _ _ ?_
  (try clear hK6 K6)
  refine wp_ret ?_
  go_ret2
  exact ⟨rfl, hM.below⟩
set_option maxHeartbeats 4000000 in
theorem rbg_lo (P : Pl) (i : Int) (w : World) (hk : POk P) (h1 : i < 1) : Calls Tryd.prog 23 #[.agg (plc P).toArray, .int .i64 i] w fun e w' => e = .returned (.tuple #[.int .i64 0, .int .i64 1]) ∧ Below w.heap.size w w' := by
  have hM := Ms.refl w
  go_enter Tryd.func23, Tryd.ntmps23
  refine wp_seq_k (fun K1 hK1 => ?_)
  refine wl_region ?_
  refine wl_give rfl (g_box 34 _ (plc (P)) rfl ?_)
  intro w2 t_ b_
  replace hM := hM.new t_ b_
  clear t_ b_
  (try simp only [Act.put, st_a, st_0, st_s])
  refine wl_give rfl (g_assign _ (.int .i64 (0)) rfl ?_)
  (try simp only [Act.put, st_a, st_0, st_s])
  refine wl_give rfl (g_assign _ (.int .i64 (0)) rfl ?_)
  (try simp only [Act.put, st_a, st_0, st_s])
  refine wl_nil ?_
  refine hK1 _ _ ?_
  (try clear hK1 K1)
  refine wp_seq_k (fun K3 hK3 => ?_)
  refine wp_seq_k (fun K4 hK4 => ?_)
  refine wl_region ?_
  refine wl_give rfl (g_load_all 34 _ (w.heap.size) (plc (P)) 34 _ rfl (hM.get 0 rfl) Tryd.underlying34 rfl (szRp _) ?_)
  (try simp only [Act.put, st_a, st_0, st_s])
  refine wl_give rfl (g_call 44 _ _ [.agg (plc (P)).toArray] (kf44 _ _) rfl ((rmay_yes P w2 hk).mono ?_))
  rintro e w5 ⟨rfl, t_⟩
  refine ⟨_, rfl, ?_⟩
  replace hM := hM.call t_
  clear t_
  (try simp only [Act.put, st_a, st_0, st_s])
  refine wl_give rfl (g_unot 4 _ true rfl ?_)
  (try simp only [Act.put, st_a, st_0, st_s])
  refine wl_give rfl (g_move _ (.bool false) rfl ?_)
  (try simp only [Act.put, st_a, st_0, st_s])
  refine wl_give rfl (g_move _ (.int .i64 (i)) rfl ?_)
  (try simp only [Act.put, st_a, st_0, st_s])
  refine wl_give rfl (g_ilss 3 _ _ .i64 (i) (1) true rfl rfl (decide_eq_true h1) ?_)
  (try simp only [Act.put, st_a, st_0, st_s])
  refine wl_give rfl (g_pickf _ _ _ (.bool true) rfl rfl ?_)
  (try simp only [Act.put, st_a, st_0, st_s])
  refine wl_give rfl (g_move _ (.bool true) rfl ?_)
  (try simp only [Act.put, st_a, st_0, st_s])
  refine wl_skip rfl ?_
  (try simp only [Act.put, st_a, st_0, st_s])
  refine wl_skip rfl ?_
  (try simp only [Act.put, st_a, st_0, st_s])
  refine wl_skip rfl ?_
  (try simp only [Act.put, st_a, st_0, st_s])
  refine wl_skip rfl ?_
  (try simp only [Act.put, st_a, st_0, st_s])
  refine wl_skip rfl ?_
  (try simp only [Act.put, st_a, st_0, st_s])
  refine wl_give rfl (g_pickt _ _ _ (.bool true) rfl rfl ?_)
  (try simp only [Act.put, st_a, st_0, st_s])
  refine wl_nil ?_
  refine hK4 _ _ ?_
  (try clear hK4 K4)
  refine wp_cond_true rfl ?_
  refine wp_seq_k (fun K6 hK6 => ?_)
  refine wl_region ?_
  refine wl_give rfl (g_assign _ (.int .i64 (0)) rfl ?_)
  (try simp only [Act.put, st_a, st_0, st_s])
  refine wl_give rfl (g_assign _ (.int .i64 (1)) rfl ?_)
  (try simp only [Act.put, st_a, st_0, st_s])
  refine wl_nil ?_
  refine hK6 _ _ ?_
  (try clear hK6 K6)
  refine wp_ret ?_
  go_ret2
  exact ⟨rfl, hM.below⟩
set_option maxHeartbeats 4000000 in
theorem rbg_hi (P : Pl) (i : Int) (w : World) (hk : POk P) (h1 : ¬ i < 1) (h2 : P.ct + 1 < i) (e1 : Shut (IntKind.i64.wrap (P.ct + 1) = P.ct + 1)) : Calls Tryd.prog 23 #[.agg (plc P).toArray, .int .i64 i] w fun e w' => e = .returned (.tuple #[.int .i64 0, .int .i64 1]) ∧ Below w.heap.size w w' := by
  have hM := Ms.refl w
  go_enter Tryd.func23, Tryd.ntmps23
  refine wp_seq_k (fun K1 hK1 => ?_)
  refine wl_region ?_
  refine wl_give rfl (g_box 34 _ (plc (P)) rfl ?_)
  intro w2 t_ b_
  replace hM := hM.new t_ b_
  clear t_ b_
  (try simp only [Act.put, st_a, st_0, st_s])
  refine wl_give rfl (g_assign _ (.int .i64 (0)) rfl ?_)
  (try simp only [Act.put, st_a, st_0, st_s])
  refine wl_give rfl (g_assign _ (.int .i64 (0)) rfl ?_)
  (try simp only [Act.put, st_a, st_0, st_s])
  refine wl_nil ?_
  refine hK1 _ _ ?_
  (try clear hK1 K1)
  refine wp_seq_k (fun K3 hK3 => ?_)
  refine wp_seq_k (fun K4 hK4 => ?_)
  refine wl_region ?_
  refine wl_give rfl (g_load_all 34 _ (w.heap.size) (plc (P)) 34 _ rfl (hM.get 0 rfl) Tryd.underlying34 rfl (szRp _) ?_)
  (try simp only [Act.put, st_a, st_0, st_s])
  refine wl_give rfl (g_call 44 _ _ [.agg (plc (P)).toArray] (kf44 _ _) rfl ((rmay_yes P w2 hk).mono ?_))
  rintro e w5 ⟨rfl, t_⟩
  refine ⟨_, rfl, ?_⟩
  replace hM := hM.call t_
  clear t_
  (try simp only [Act.put, st_a, st_0, st_s])
  refine wl_give rfl (g_unot 4 _ true rfl ?_)
  (try simp only [Act.put, st_a, st_0, st_s])
  refine wl_give rfl (g_move _ (.bool false) rfl ?_)
  (try simp only [Act.put, st_a, st_0, st_s])
  refine wl_give rfl (g_move _ (.int .i64 (i)) rfl ?_)
  (try simp only [Act.put, st_a, st_0, st_s])
  refine wl_give rfl (g_ilss 3 _ _ .i64 (i) (1) false rfl rfl (decide_eq_false h1) ?_)
  (try simp only [Act.put, st_a, st_0, st_s])
  refine wl_give rfl (g_pickf _ _ _ (.bool false) rfl rfl ?_)
  (try simp only [Act.put, st_a, st_0, st_s])
  refine wl_give rfl (g_move _ (.bool false) rfl ?_)
  (try simp only [Act.put, st_a, st_0, st_s])
  refine wl_give rfl (g_move _ (.int .i64 (i)) rfl ?_)
  (try simp only [Act.put, st_a, st_0, st_s])
  refine wl_give rfl (g_fa 34 _ (w.heap.size) (0) (3) 3 rfl (faRp3 _ _ _) ?_)
  (try simp only [Act.put, st_a, st_0, st_s])
  refine wl_give rfl (g_ld1 3 _ (w.heap.size) (3) _ rfl (ld3 _ _ _ _ ((hM.get 0 rfl).cell (3) _ (rfl))) ?_)
  (try simp only [Act.put, st_a, st_0, st_s])
  refine wl_give rfl (g_ia 3 _ _ .i64 (P.ct) (1) (P.ct + 1) rfl rfl e1.out ?_)
  (try simp only [Act.put, st_a, st_0, st_s])
  refine wl_give rfl (g_igtr 3 _ _ .i64 (i) (P.ct + 1) true rfl rfl (decide_eq_true h2) ?_)
  (try simp only [Act.put, st_a, st_0, st_s])
  refine wl_give rfl (g_pickf _ _ _ (.bool true) rfl rfl ?_)
  (try simp only [Act.put, st_a, st_0, st_s])
  refine wl_nil ?_
  refine hK4 _ _ ?_
  (try clear hK4 K4)
  refine wp_cond_true rfl ?_
  refine wp_seq_k (fun K6 hK6 => ?_)
  refine wl_region ?_
  refine wl_give rfl (g_assign _ (.int .i64 (0)) rfl ?_)
  (try simp only [Act.put, st_a, st_0, st_s])
  refine wl_give rfl (g_assign _ (.int .i64 (1)) rfl ?_)
  (try simp only [Act.put, st_a, st_0, st_s])
  refine wl_nil ?_
  refine hK6 _ _ ?_
  (try clear hK6 K6)
  refine wp_ret ?_
  go_ret2
  exact ⟨rfl, hM.below⟩
set_option maxHeartbeats 4000000 in
theorem rbg_in (P : Pl) (i : Int) (w : World) (hk : POk P) (h1 : ¬ i < 1) (h2 : ¬ P.ct + 1 < i) (e1 : Shut (IntKind.i64.wrap (P.ct + 1) = P.ct + 1)) : Calls Tryd.prog 23 #[.agg (plc P).toArray, .int .i64 i] w fun e w' => e = .returned (.tuple #[.int .i64 (bgn P i), .int .i64 0]) ∧ Below w.heap.size w w' := by
  have hM := Ms.refl w
  go_enter Tryd.func23, Tryd.ntmps23
  refine wp_seq_k (fun K1 hK1 => ?_)
  refine wl_region ?_
  refine wl_give rfl (g_box 34 _ (plc (P)) rfl ?_)
  intro w2 t_ b_
  replace hM := hM.new t_ b_
  clear t_ b_
  (try simp only [Act.put, st_a, st_0, st_s])
  refine wl_give rfl (g_assign _ (.int .i64 (0)) rfl ?_)
  (try simp only [Act.put, st_a, st_0, st_s])
  refine wl_give rfl (g_assign _ (.int .i64 (0)) rfl ?_)
  (try simp only [Act.put, st_a, st_0, st_s])
  refine wl_nil ?_
  refine hK1 _ _ ?_
  (try clear hK1 K1)
  refine wp_seq_k (fun K3 hK3 => ?_)
  refine wp_seq_k (fun K4 hK4 => ?_)
  refine wl_region ?_
  refine wl_give rfl (g_load_all 34 _ (w.heap.size) (plc (P)) 34 _ rfl (hM.get 0 rfl) Tryd.underlying34 rfl (szRp _) ?_)
  (try simp only [Act.put, st_a, st_0, st_s])
  refine wl_give rfl (g_call 44 _ _ [.agg (plc (P)).toArray] (kf44 _ _) rfl ((rmay_yes P w2 hk).mono ?_))
  rintro e w5 ⟨rfl, t_⟩
  refine ⟨_, rfl, ?_⟩
  replace hM := hM.call t_
  clear t_
  (try simp only [Act.put, st_a, st_0, st_s])
  refine wl_give rfl (g_unot 4 _ true rfl ?_)
  (try simp only [Act.put, st_a, st_0, st_s])
  refine wl_give rfl (g_move _ (.bool false) rfl ?_)
  (try simp only [Act.put, st_a, st_0, st_s])
  refine wl_give rfl (g_move _ (.int .i64 (i)) rfl ?_)
  (try simp only [Act.put, st_a, st_0, st_s])
  refine wl_give rfl (g_ilss 3 _ _ .i64 (i) (1) false rfl rfl (decide_eq_false h1) ?_)
  (try simp only [Act.put, st_a, st_0, st_s])
  refine wl_give rfl (g_pickf _ _ _ (.bool false) rfl rfl ?_)
  (try simp only [Act.put, st_a, st_0, st_s])
  refine wl_give rfl (g_move _ (.bool false) rfl ?_)
  (try simp only [Act.put, st_a, st_0, st_s])
  refine wl_give rfl (g_move _ (.int .i64 (i)) rfl ?_)
  (try simp only [Act.put, st_a, st_0, st_s])
  refine wl_give rfl (g_fa 34 _ (w.heap.size) (0) (3) 3 rfl (faRp3 _ _ _) ?_)
  (try simp only [Act.put, st_a, st_0, st_s])
  refine wl_give rfl (g_ld1 3 _ (w.heap.size) (3) _ rfl (ld3 _ _ _ _ ((hM.get 0 rfl).cell (3) _ (rfl))) ?_)
  (try simp only [Act.put, st_a, st_0, st_s])
  refine wl_give rfl (g_ia 3 _ _ .i64 (P.ct) (1) (P.ct + 1) rfl rfl e1.out ?_)
  (try simp only [Act.put, st_a, st_0, st_s])
  refine wl_give rfl (g_igtr 3 _ _ .i64 (i) (P.ct + 1) false rfl rfl (decide_eq_false h2) ?_)
  (try simp only [Act.put, st_a, st_0, st_s])
  refine wl_give rfl (g_pickf _ _ _ (.bool false) rfl rfl ?_)
  (try simp only [Act.put, st_a, st_0, st_s])
  refine wl_nil ?_
  refine hK4 _ _ ?_
  (try clear hK4 K4)
  refine wp_cond_false rfl ?_
  refine wp_skip ?_
  refine hK3 _ _ ?_
  (try clear hK3 K3)
  refine wp_seq_k (fun K6 hK6 => ?_)
  refine wl_region ?_
  refine wl_give rfl (g_fa 34 _ (w.heap.size) (0) (0) 0 rfl (faRp0 _ _ _) ?_)
  (try simp only [Act.put, st_a, st_0, st_s])
  refine wl_give rfl (g_ld1 2 _ (w.heap.size) (0) _ rfl (ld2 _ _ _ _ ((hM.get 0 rfl).cell (0) _ (rfl))) ?_)
  (try simp only [Act.put, st_a, st_0, st_s])
  refine wl_give rfl (g_assign _ (.int .i64 ((P).st)) rfl ?_)
  (try simp only [Act.put, st_a, st_0, st_s])
  refine wl_nil ?_
  refine hK6 _ _ ?_
  (try clear hK6 K6)
  refine wp_seq_k (fun K7 hK7 => ?_)
  refine wp_seq_k (fun K8 hK8 => ?_)
  refine wl_region ?_
  refine wl_give rfl (g_assign _ (.int .i64 (1)) rfl ?_)
  (try simp only [Act.put, st_a, st_0, st_s])
  refine wl_nil ?_
  refine hK8 _ _ ?_
  (try clear hK8 K8)
  refine wp_block ?_
  go_loopw [6, 7] (fun u v wr => ∃ j : Nat, 1 ≤ j ∧ (j : Int) ≤ i ∧ u = .int .i64 (bgn P j) ∧ v = .int .i64 ((j : Nat) : Int) ∧ Ms w wr [blk (w.heap.size) (plc (P)) 34]) (fun _ v _ => (i - intOf v).toNat)
  case atStart => exact ⟨1, by omega, by omega, by rw [show ((1 : Nat) : Int) = 1 from rfl, bgn_one], rfl, hM⟩
  case round =>
    clear hM
    obtain ⟨j, hj1, hj2, rfl, rfl, hM⟩ := hrel
    by_cases hlt : ((j : Nat) : Int) < i
    · skip
      have e2 : Shut (IntKind.i64.wrap (bgn P j + P.lg) = bgn P ((j + 1 : Nat) : Int)) := ⟨by rw [← bgn_succ]; have := bgn_bd hk (i := (j : Int) + 1) (by omega) (by omega); exact wrap_id _ (by omega) (by omega)⟩
      have e3 : Shut (IntKind.i64.wrap (((j : Nat) : Int) + 1) = ((j + 1 : Nat) : Int)) := ⟨by rw [wrap_id _ (by omega) (by omega)]; omega⟩
      refine wp_seq_k (fun K9 hK9 => ?_)
      refine wp_seq_k (fun K10 hK10 => ?_)
      refine wl_region ?_
      refine wl_give rfl (g_move _ (.int .i64 (((j : Nat) : Int))) rfl ?_)
      (try simp only [Act.put, st_a, st_0, st_s])
      refine wl_give rfl (g_move _ (.int .i64 (i)) rfl ?_)
      (try simp only [Act.put, st_a, st_0, st_s])
      refine wl_give rfl (g_ilss 3 _ _ .i64 (((j : Nat) : Int)) (i) true rfl rfl (decide_eq_true hlt) ?_)
      (try simp only [Act.put, st_a, st_0, st_s])
      refine wl_nil ?_
      refine hK10 _ _ ?_
      (try clear hK10 K10)
      refine wp_cond_true rfl ?_
      refine wp_skip ?_
      refine hK9 _ _ ?_
      (try clear hK9 K9)
      refine wp_seq_k (fun K11 hK11 => ?_)
      refine wp_block ?_
      refine wl_region ?_
      refine wl_give rfl (g_move _ (.int .i64 (bgn P j)) rfl ?_)
      (try simp only [Act.put, st_a, st_0, st_s])
      refine wl_give rfl (g_fa 34 _ (w.heap.size) (0) (1) 1 rfl (faRp1 _ _ _) ?_)
      (try simp only [Act.put, st_a, st_0, st_s])
      refine wl_give rfl (g_ld1 2 _ (w.heap.size) (1) _ rfl (ld2 _ _ _ _ ((hM.get 0 rfl).cell (1) _ (rfl))) ?_)
      (try simp only [Act.put, st_a, st_0, st_s])
      refine wl_give rfl (g_ia 2 _ _ .i64 (bgn P j) (P.lg) (bgn P ((j + 1 : Nat) : Int)) rfl rfl e2.out ?_)
      (try simp only [Act.put, st_a, st_0, st_s])
      refine wl_give rfl (g_assign _ (.int .i64 (bgn P ((j + 1 : Nat) : Int))) rfl ?_)
      (try simp only [Act.put, st_a, st_0, st_s])
      refine wl_nil ?_
      refine hK11 _ _ ?_
      (try clear hK11 K11)
      refine wl_region ?_
      refine wl_give rfl (g_move _ (.int .i64 (((j : Nat) : Int))) rfl ?_)
      (try simp only [Act.put, st_a, st_0, st_s])
      refine wl_give rfl (g_ia 3 _ _ .i64 (((j : Nat) : Int)) (1) (((j + 1 : Nat) : Int)) rfl rfl e3.out ?_)
      (try simp only [Act.put, st_a, st_0, st_s])
      refine wl_give rfl (g_assign _ (.int .i64 (((j + 1 : Nat) : Int))) rfl ?_)
      (try simp only [Act.put, st_a, st_0, st_s])
      refine wl_nil ?_
      (try simp only [Exit.then, Exit.inBlock, ↓reduceIte, Nat.reduceEqDiff])
      go_roundw
      case rel => exact ⟨j + 1, by omega, by omega, rfl, rfl, hM⟩
      case measure => simp [intOf]; omega
    · have he : (j : Int) = i := by omega
      subst he
      refine wp_seq_k (fun K12 hK12 => ?_)
      refine wp_seq_k (fun K13 hK13 => ?_)
      refine wl_region ?_
      refine wl_give rfl (g_move _ (.int .i64 (((j : Nat) : Int))) rfl ?_)
      (try simp only [Act.put, st_a, st_0, st_s])
      refine wl_give rfl (g_move _ (.int .i64 (((j : Nat) : Int))) rfl ?_)
      (try simp only [Act.put, st_a, st_0, st_s])
      refine wl_give rfl (g_ilss 3 _ _ .i64 (((j : Nat) : Int)) (((j : Nat) : Int)) false rfl rfl (decide_eq_false hlt) ?_)
      (try simp only [Act.put, st_a, st_0, st_s])
      refine wl_nil ?_
      refine hK13 _ _ ?_
      (try clear hK13 K13)
      refine wp_cond_false rfl ?_
      refine wp_exit ?_
      refine hK7 _ _ ?_
      (try clear hK7 K7)
      refine wp_seq_k (fun K14 hK14 => ?_)
      refine wl_region ?_
      refine wl_give rfl (g_move _ (.int .i64 (bgn P j)) rfl ?_)
      (try simp only [Act.put, st_a, st_0, st_s])
      refine wl_give rfl (g_assign _ (.int .i64 (bgn P j)) rfl ?_)
      (try simp only [Act.put, st_a, st_0, st_s])
      refine wl_give rfl (g_assign _ (.int .i64 (0)) rfl ?_)
      (try simp only [Act.put, st_a, st_0, st_s])
      refine wl_nil ?_
      refine hK14 _ _ ?_
      (try clear hK14 K14)
      refine wp_ret ?_
      go_ret2
      exact ⟨rfl, hM.below⟩
theorem rbegins_any (P : Pl) (i : Int) (w : World) (X E : Int) (h : Shut (pbg P i = (X, E))) : Calls Tryd.prog 23 #[.agg (plc P).toArray, .int .i64 i] w fun e w' => e = .returned (.tuple #[.int .i64 X, .int .i64 E]) ∧ Below w.heap.size w w' := by
  have h := h.out
  unfold pbg at h
  by_cases hk : POk P
  · have e1 : Shut (IntKind.i64.wrap (P.ct + 1) = P.ct + 1) := ⟨wrap_id _ (by omega) (by omega)⟩
    by_cases h1 : i < 1
    · rw [if_neg (fun hn => by omega)] at h; cases h; exact rbg_lo P i w hk h1
    · by_cases h2 : P.ct + 1 < i
      · rw [if_neg (fun hn => by omega)] at h; cases h; exact rbg_hi P i w hk h1 h2 e1
      · rw [if_pos ⟨hk, by omega, by omega⟩] at h; cases h; exact rbg_in P i w hk h1 h2 e1
  · rw [if_neg (fun hn => hk hn.1)] at h; cases h; exact rbg_bad P i w hk
set_option maxHeartbeats 4000000 in
theorem rat_bad (P : Pl) (t : Int) (w : World) (hk : ¬ POk P) : Calls Tryd.prog 34 #[.agg (plc P).toArray, .int .i64 t] w fun e w' => e = .returned (.tuple #[.int .i64 0, .int .i64 1]) ∧ Below w.heap.size w w' := by
  have hM := Ms.refl w
  go_enter Tryd.func34, Tryd.ntmps34
  refine wp_seq_k (fun K1 hK1 => ?_)
  refine wl_region ?_
  refine wl_give rfl (g_box 34 _ (plc (P)) rfl ?_)
  intro w2 t_ b_
  replace hM := hM.new t_ b_
  clear t_ b_
  (try simp only [Act.put, st_a, st_0, st_s])
  refine wl_give rfl (g_assign _ (.int .i64 (0)) rfl ?_)
  (try simp only [Act.put, st_a, st_0, st_s])
  refine wl_give rfl (g_assign _ (.int .i64 (0)) rfl ?_)
  (try simp only [Act.put, st_a, st_0, st_s])
  refine wl_nil ?_
  refine hK1 _ _ ?_
  (try clear hK1 K1)
  refine wp_seq_k (fun K3 hK3 => ?_)
  refine wp_seq_k (fun K4 hK4 => ?_)
  refine wl_region ?_
  refine wl_give rfl (g_load_all 34 _ (w.heap.size) (plc (P)) 34 _ rfl (hM.get 0 rfl) Tryd.underlying34 rfl (szRp _) ?_)
  (try simp only [Act.put, st_a, st_0, st_s])
  refine wl_give rfl (g_call 44 _ _ [.agg (plc (P)).toArray] (kf44 _ _) rfl ((rmay_no P w2 hk).mono ?_))
  rintro e w5 ⟨rfl, t_⟩
  refine ⟨_, rfl, ?_⟩
  replace hM := hM.call t_
  clear t_
  (try simp only [Act.put, st_a, st_0, st_s])
  refine wl_give rfl (g_unot 4 _ false rfl ?_)
  (try simp only [Act.put, st_a, st_0, st_s])
  refine wl_nil ?_
  refine hK4 _ _ ?_
  (try clear hK4 K4)
  refine wp_cond_true rfl ?_
  refine wp_seq_k (fun K6 hK6 => ?_)
  refine wl_region ?_
  refine wl_give rfl (g_assign _ (.int .i64 (0)) rfl ?_)
  (try simp only [Act.put, st_a, st_0, st_s])
  refine wl_give rfl (g_assign _ (.int .i64 (1)) rfl ?_)
  (try simp only [Act.put, st_a, st_0, st_s])
  refine wl_nil ?_
  refine hK6 _ _ ?_
  (try clear hK6 K6)
  refine wp_ret ?_
  go_ret2
  exact ⟨rfl, hM.below⟩
set_option maxHeartbeats 4000000 in
theorem rat_wait (P : Pl) (t : Int) (w : World) (hk : POk P) (h1 : t < P.st) : Calls Tryd.prog 34 #[.agg (plc P).toArray, .int .i64 t] w fun e w' => e = .returned (.tuple #[.int .i64 0, .int .i64 15]) ∧ Below w.heap.size w w' := by
  have hM := Ms.refl w
  go_enter Tryd.func34, Tryd.ntmps34
  refine wp_seq_k (fun K1 hK1 => ?_)
  refine wl_region ?_
  refine wl_give rfl (g_box 34 _ (plc (P)) rfl ?_)
  intro w2 t_ b_
  replace hM := hM.new t_ b_
  clear t_ b_
  (try simp only [Act.put, st_a, st_0, st_s])
  refine wl_give rfl (g_assign _ (.int .i64 (0)) rfl ?_)
  (try simp only [Act.put, st_a, st_0, st_s])
  refine wl_give rfl (g_assign _ (.int .i64 (0)) rfl ?_)
  (try simp only [Act.put, st_a, st_0, st_s])
  refine wl_nil ?_
  refine hK1 _ _ ?_
  (try clear hK1 K1)
  refine wp_seq_k (fun K3 hK3 => ?_)
  refine wp_seq_k (fun K4 hK4 => ?_)
  refine wl_region ?_
  refine wl_give rfl (g_load_all 34 _ (w.heap.size) (plc (P)) 34 _ rfl (hM.get 0 rfl) Tryd.underlying34 rfl (szRp _) ?_)
  (try simp only [Act.put, st_a, st_0, st_s])
  refine wl_give rfl (g_call 44 _ _ [.agg (plc (P)).toArray] (kf44 _ _) rfl ((rmay_yes P w2 hk).mono ?_))
  rintro e w5 ⟨rfl, t_⟩
  refine ⟨_, rfl, ?_⟩
  replace hM := hM.call t_
  clear t_
  (try simp only [Act.put, st_a, st_0, st_s])
  refine wl_give rfl (g_unot 4 _ true rfl ?_)
  (try simp only [Act.put, st_a, st_0, st_s])
  refine wl_nil ?_
  refine hK4 _ _ ?_
  (try clear hK4 K4)
  refine wp_cond_false rfl ?_
  refine wp_skip ?_
  refine hK3 _ _ ?_
  (try clear hK3 K3)
  refine wp_seq_k (fun K6 hK6 => ?_)
  refine wp_seq_k (fun K7 hK7 => ?_)
  refine wl_region ?_
  refine wl_give rfl (g_move _ (.int .i64 (t)) rfl ?_)
  (try simp only [Act.put, st_a, st_0, st_s])
  refine wl_give rfl (g_fa 34 _ (w.heap.size) (0) (0) 0 rfl (faRp0 _ _ _) ?_)
  (try simp only [Act.put, st_a, st_0, st_s])
  refine wl_give rfl (g_ld1 2 _ (w.heap.size) (0) _ rfl (ld2 _ _ _ _ ((hM.get 0 rfl).cell (0) _ (rfl))) ?_)
  (try simp only [Act.put, st_a, st_0, st_s])
  refine wl_give rfl (g_ilss 2 _ _ .i64 (t) ((P).st) true rfl rfl (decide_eq_true h1) ?_)
  (try simp only [Act.put, st_a, st_0, st_s])
  refine wl_nil ?_
  refine hK7 _ _ ?_
  (try clear hK7 K7)
  refine wp_cond_true rfl ?_
  refine wp_seq_k (fun K8 hK8 => ?_)
  refine wl_region ?_
  refine wl_give rfl (g_assign _ (.int .i64 (0)) rfl ?_)
  (try simp only [Act.put, st_a, st_0, st_s])
  refine wl_give rfl (g_assign _ (.int .i64 (15)) rfl ?_)
  (try simp only [Act.put, st_a, st_0, st_s])
  refine wl_nil ?_
  refine hK8 _ _ ?_
  (try clear hK8 K8)
  refine wp_ret ?_
  go_ret2
  exact ⟨rfl, hM.below⟩
set_option maxHeartbeats 4000000 in
theorem rat_in (P : Pl) (t : Int) (w : World) (hk : POk P) (h1 : ¬ t < P.st) (J E : Int) (h : pat P t = (J, E)) : Calls Tryd.prog 34 #[.agg (plc P).toArray, .int .i64 t] w fun e w' => e = .returned (.tuple #[.int .i64 J, .int .i64 E]) ∧ Below w.heap.size w w' := by
  have hM := Ms.refl w
  go_enter Tryd.func34, Tryd.ntmps34
  refine wp_seq_k (fun K1 hK1 => ?_)
  refine wl_region ?_
  refine wl_give rfl (g_box 34 _ (plc (P)) rfl ?_)
  intro w2 t_ b_
  replace hM := hM.new t_ b_
  clear t_ b_
  (try simp only [Act.put, st_a, st_0, st_s])
  refine wl_give rfl (g_assign _ (.int .i64 (0)) rfl ?_)
  (try simp only [Act.put, st_a, st_0, st_s])
  refine wl_give rfl (g_assign _ (.int .i64 (0)) rfl ?_)
  (try simp only [Act.put, st_a, st_0, st_s])
  refine wl_nil ?_
  refine hK1 _ _ ?_
  (try clear hK1 K1)
  refine wp_seq_k (fun K3 hK3 => ?_)
  refine wp_seq_k (fun K4 hK4 => ?_)
  refine wl_region ?_
  refine wl_give rfl (g_load_all 34 _ (w.heap.size) (plc (P)) 34 _ rfl (hM.get 0 rfl) Tryd.underlying34 rfl (szRp _) ?_)
  (try simp only [Act.put, st_a, st_0, st_s])
  refine wl_give rfl (g_call 44 _ _ [.agg (plc (P)).toArray] (kf44 _ _) rfl ((rmay_yes P w2 hk).mono ?_))
  rintro e w5 ⟨rfl, t_⟩
  refine ⟨_, rfl, ?_⟩
  replace hM := hM.call t_
  clear t_
  (try simp only [Act.put, st_a, st_0, st_s])
  refine wl_give rfl (g_unot 4 _ true rfl ?_)
  (try simp only [Act.put, st_a, st_0, st_s])
  refine wl_nil ?_
  refine hK4 _ _ ?_
  (try clear hK4 K4)
  refine wp_cond_false rfl ?_
  refine wp_skip ?_
  refine hK3 _ _ ?_
  (try clear hK3 K3)
  refine wp_seq_k (fun K6 hK6 => ?_)
  refine wp_seq_k (fun K7 hK7 => ?_)
  refine wl_region ?_
  refine wl_give rfl (g_move _ (.int .i64 (t)) rfl ?_)
  (try simp only [Act.put, st_a, st_0, st_s])
  refine wl_give rfl (g_fa 34 _ (w.heap.size) (0) (0) 0 rfl (faRp0 _ _ _) ?_)
  (try simp only [Act.put, st_a, st_0, st_s])
  refine wl_give rfl (g_ld1 2 _ (w.heap.size) (0) _ rfl (ld2 _ _ _ _ ((hM.get 0 rfl).cell (0) _ (rfl))) ?_)
  (try simp only [Act.put, st_a, st_0, st_s])
  refine wl_give rfl (g_ilss 2 _ _ .i64 (t) ((P).st) false rfl rfl (decide_eq_false h1) ?_)
  (try simp only [Act.put, st_a, st_0, st_s])
  refine wl_nil ?_
  refine hK7 _ _ ?_
  (try clear hK7 K7)
  refine wp_cond_false rfl ?_
  refine wp_skip ?_
  refine hK6 _ _ ?_
  (try clear hK6 K6)
  refine wp_seq_k (fun K8 hK8 => ?_)
  refine wp_seq_k (fun K9 hK9 => ?_)
  refine wl_region ?_
  refine wl_give rfl (g_assign _ (.int .i64 (1)) rfl ?_)
  (try simp only [Act.put, st_a, st_0, st_s])
  refine wl_nil ?_
  refine hK9 _ _ ?_
  (try clear hK9 K9)
  refine wp_block ?_
  go_loopw [6, 7, 8] (fun v t7 t8 wr => ∃ j : Nat, 1 ≤ j ∧ (j : Int) ≤ P.ct + 1 ∧ bgn P j ≤ t ∧ v = .int .i64 ((j : Nat) : Int) ∧ Ms w wr [blk (w.heap.size) (plc (P)) 34]) (fun v _ _ _ => (P.ct + 1 - intOf v).toNat)
  case atStart => exact ⟨1, by omega, by omega, by rw [show ((1 : Nat) : Int) = 1 from rfl, bgn_one]; omega, rfl, hM⟩
  case round =>
    clear hM
    obtain ⟨j, hj1, hj2, hjt, rfl, hM⟩ := hrel
    by_cases hlt : ((j : Nat) : Int) ≤ P.ct
    · have e3 : Shut (IntKind.i64.wrap (((j : Nat) : Int) + 1) = ((j + 1 : Nat) : Int)) := ⟨by rw [wrap_id _ (by omega) (by omega)]; omega⟩
      have hb : Shut (pbg P ((j + 1 : Nat) : Int) = (bgn P ((j + 1 : Nat) : Int), 0)) := ⟨by unfold pbg; rw [if_pos ⟨hk, by omega, by omega⟩]⟩
      by_cases hin : t < bgn P ((j + 1 : Nat) : Int)
      · have hp := pat_in hk (show 1 ≤ (j : Int) by omega) hlt hjt hin
        rw [hp] at h
        cases h
        refine wp_seq_k (fun K10 hK10 => ?_)
        refine wp_seq_k (fun K11 hK11 => ?_)
        refine wl_region ?_
        refine wl_give rfl (g_move _ (.int .i64 (((j : Nat) : Int))) rfl ?_)
        (try simp only [Act.put, st_a, st_0, st_s])
        refine wl_give rfl (g_fa 34 _ (w.heap.size) (0) (3) 3 rfl (faRp3 _ _ _) ?_)
        (try simp only [Act.put, st_a, st_0, st_s])
        refine wl_give rfl (g_ld1 3 _ (w.heap.size) (3) _ rfl (ld3 _ _ _ _ ((hM.get 0 rfl).cell (3) _ (rfl))) ?_)
        (try simp only [Act.put, st_a, st_0, st_s])
        refine wl_give rfl (g_ileq 3 _ _ .i64 (((j : Nat) : Int)) ((P).ct) true rfl rfl (decide_eq_true hlt) ?_)
        (try simp only [Act.put, st_a, st_0, st_s])
        refine wl_nil ?_
        refine hK11 _ _ ?_
        (try clear hK11 K11)
        refine wp_cond_true rfl ?_
        refine wp_skip ?_
        refine hK10 _ _ ?_
        (try clear hK10 K10)
        refine wp_seq_k (fun K12 hK12 => ?_)
        refine wp_block ?_
        refine wp_seq_k (fun K13 hK13 => ?_)
        refine wl_region ?_
        refine wl_give rfl (g_load_all 34 _ (w.heap.size) (plc (P)) 34 _ rfl (hM.get 0 rfl) Tryd.underlying34 rfl (szRp _) ?_)
        (try simp only [Act.put, st_a, st_0, st_s])
        refine wl_give rfl (g_move _ (.int .i64 (((j : Nat) : Int))) rfl ?_)
        (try simp only [Act.put, st_a, st_0, st_s])
        refine wl_give rfl (g_ia 3 _ _ .i64 (((j : Nat) : Int)) (1) (((j + 1 : Nat) : Int)) rfl rfl e3.out ?_)
        (try simp only [Act.put, st_a, st_0, st_s])
        refine wl_give rfl (g_call 23 _ _ [.agg (plc (P)).toArray, .int .i64 (((j + 1 : Nat) : Int))] (kf23 _ _) rfl ((rbegins_any P ((j + 1 : Nat) : Int) wr _ _ hb).mono ?_))
        rintro e w14 ⟨rfl, t_⟩
        refine ⟨_, rfl, ?_⟩
        replace hM := hM.call t_
        clear t_
        (try simp only [Act.put, st_a, st_0, st_s])
        refine wl_give rfl (g_move _ (.tuple #[.int .i64 (bgn P ((j + 1 : Nat) : Int)), .int .i64 (0)]) rfl ?_)
        (try simp only [Act.put, st_a, st_0, st_s])
        refine wl_give rfl (g_extract _ #[.int .i64 (bgn P ((j + 1 : Nat) : Int)), .int .i64 (0)] 0 (.int .i64 (bgn P ((j + 1 : Nat) : Int))) rfl rfl ?_)
        (try simp only [Act.put, st_a, st_0, st_s])
        refine wl_give rfl (g_extract _ #[.int .i64 (bgn P ((j + 1 : Nat) : Int)), .int .i64 (0)] 1 (.int .i64 (0)) rfl rfl ?_)
        (try simp only [Act.put, st_a, st_0, st_s])
        refine wl_give rfl (g_assign _ (.int .i64 (bgn P ((j + 1 : Nat) : Int))) rfl ?_)
        (try simp only [Act.put, st_a, st_0, st_s])
        refine wl_give rfl (g_assign _ (.int .i64 (0)) rfl ?_)
        (try simp only [Act.put, st_a, st_0, st_s])
        refine wl_nil ?_
        refine hK13 _ _ ?_
        (try clear hK13 K13)
        refine wp_seq_k (fun K15 hK15 => ?_)
        refine wl_region ?_
        refine wl_give rfl (g_move _ (.int .i64 (t)) rfl ?_)
        (try simp only [Act.put, st_a, st_0, st_s])
        refine wl_give rfl (g_move _ (.int .i64 (bgn P ((j + 1 : Nat) : Int))) rfl ?_)
        (try simp only [Act.put, st_a, st_0, st_s])
        refine wl_give rfl (g_ilss 2 _ _ .i64 (t) (bgn P ((j + 1 : Nat) : Int)) true rfl rfl (decide_eq_true hin) ?_)
        (try simp only [Act.put, st_a, st_0, st_s])
        refine wl_nil ?_
        refine hK15 _ _ ?_
        (try clear hK15 K15)
        refine wp_cond_true rfl ?_
        refine wp_seq_k (fun K16 hK16 => ?_)
        refine wl_region ?_
        refine wl_give rfl (g_move _ (.int .i64 (((j : Nat) : Int))) rfl ?_)
        (try simp only [Act.put, st_a, st_0, st_s])
        refine wl_give rfl (g_assign _ (.int .i64 (((j : Nat) : Int))) rfl ?_)
        (try simp only [Act.put, st_a, st_0, st_s])
        refine wl_give rfl (g_assign _ (.int .i64 (0)) rfl ?_)
        (try simp only [Act.put, st_a, st_0, st_s])
        refine wl_nil ?_
        refine hK16 _ _ ?_
        (try clear hK16 K16)
        refine wp_ret ?_
        go_ret2
        exact ⟨rfl, hM.below⟩
      · skip
        refine wp_seq_k (fun K17 hK17 => ?_)
        refine wp_seq_k (fun K18 hK18 => ?_)
        refine wl_region ?_
        refine wl_give rfl (g_move _ (.int .i64 (((j : Nat) : Int))) rfl ?_)
        (try simp only [Act.put, st_a, st_0, st_s])
        refine wl_give rfl (g_fa 34 _ (w.heap.size) (0) (3) 3 rfl (faRp3 _ _ _) ?_)
        (try simp only [Act.put, st_a, st_0, st_s])
        refine wl_give rfl (g_ld1 3 _ (w.heap.size) (3) _ rfl (ld3 _ _ _ _ ((hM.get 0 rfl).cell (3) _ (rfl))) ?_)
        (try simp only [Act.put, st_a, st_0, st_s])
        refine wl_give rfl (g_ileq 3 _ _ .i64 (((j : Nat) : Int)) ((P).ct) true rfl rfl (decide_eq_true hlt) ?_)
        (try simp only [Act.put, st_a, st_0, st_s])
        refine wl_nil ?_
        refine hK18 _ _ ?_
        (try clear hK18 K18)
        refine wp_cond_true rfl ?_
        refine wp_skip ?_
        refine hK17 _ _ ?_
        (try clear hK17 K17)
        refine wp_seq_k (fun K19 hK19 => ?_)
        refine wp_block ?_
        refine wp_seq_k (fun K20 hK20 => ?_)
        refine wl_region ?_
        refine wl_give rfl (g_load_all 34 _ (w.heap.size) (plc (P)) 34 _ rfl (hM.get 0 rfl) Tryd.underlying34 rfl (szRp _) ?_)
        (try simp only [Act.put, st_a, st_0, st_s])
        refine wl_give rfl (g_move _ (.int .i64 (((j : Nat) : Int))) rfl ?_)
        (try simp only [Act.put, st_a, st_0, st_s])
        refine wl_give rfl (g_ia 3 _ _ .i64 (((j : Nat) : Int)) (1) (((j + 1 : Nat) : Int)) rfl rfl e3.out ?_)
        (try simp only [Act.put, st_a, st_0, st_s])
        refine wl_give rfl (g_call 23 _ _ [.agg (plc (P)).toArray, .int .i64 (((j + 1 : Nat) : Int))] (kf23 _ _) rfl ((rbegins_any P ((j + 1 : Nat) : Int) wr _ _ hb).mono ?_))
        rintro e w21 ⟨rfl, t_⟩
        refine ⟨_, rfl, ?_⟩
        replace hM := hM.call t_
        clear t_
        (try simp only [Act.put, st_a, st_0, st_s])
        refine wl_give rfl (g_move _ (.tuple #[.int .i64 (bgn P ((j + 1 : Nat) : Int)), .int .i64 (0)]) rfl ?_)
        (try simp only [Act.put, st_a, st_0, st_s])
        refine wl_give rfl (g_extract _ #[.int .i64 (bgn P ((j + 1 : Nat) : Int)), .int .i64 (0)] 0 (.int .i64 (bgn P ((j + 1 : Nat) : Int))) rfl rfl ?_)
        (try simp only [Act.put, st_a, st_0, st_s])
        refine wl_give rfl (g_extract _ #[.int .i64 (bgn P ((j + 1 : Nat) : Int)), .int .i64 (0)] 1 (.int .i64 (0)) rfl rfl ?_)
        (try simp only [Act.put, st_a, st_0, st_s])
        refine wl_give rfl (g_assign _ (.int .i64 (bgn P ((j + 1 : Nat) : Int))) rfl ?_)
        (try simp only [Act.put, st_a, st_0, st_s])
        refine wl_give rfl (g_assign _ (.int .i64 (0)) rfl ?_)
        (try simp only [Act.put, st_a, st_0, st_s])
        refine wl_nil ?_
        refine hK20 _ _ ?_
        (try clear hK20 K20)
        refine wp_seq_k (fun K22 hK22 => ?_)
        refine wl_region ?_
        refine wl_give rfl (g_move _ (.int .i64 (t)) rfl ?_)
        (try simp only [Act.put, st_a, st_0, st_s])
        refine wl_give rfl (g_move _ (.int .i64 (bgn P ((j + 1 : Nat) : Int))) rfl ?_)
        (try simp only [Act.put, st_a, st_0, st_s])
        refine wl_give rfl (g_ilss 2 _ _ .i64 (t) (bgn P ((j + 1 : Nat) : Int)) false rfl rfl (decide_eq_false hin) ?_)
        (try simp only [Act.put, st_a, st_0, st_s])
        refine wl_nil ?_
        refine hK22 _ _ ?_
        (try clear hK22 K22)
        refine wp_cond_false rfl ?_
        refine wp_skip ?_
        refine hK19 _ _ ?_
        (try clear hK19 K19)
        refine wl_region ?_
        refine wl_give rfl (g_move _ (.int .i64 (((j : Nat) : Int))) rfl ?_)
        (try simp only [Act.put, st_a, st_0, st_s])
        refine wl_give rfl (g_ia 3 _ _ .i64 (((j : Nat) : Int)) (1) (((j + 1 : Nat) : Int)) rfl rfl e3.out ?_)
        (try simp only [Act.put, st_a, st_0, st_s])
        refine wl_give rfl (g_assign _ (.int .i64 (((j + 1 : Nat) : Int))) rfl ?_)
        (try simp only [Act.put, st_a, st_0, st_s])
        refine wl_nil ?_
        (try simp only [Exit.then, Exit.inBlock, ↓reduceIte, Nat.reduceEqDiff])
        go_roundw
        case rel => exact ⟨j + 1, by omega, by omega, by omega, rfl, hM⟩
        case measure => simp [intOf]; omega
    · have he : (j : Int) = P.ct + 1 := by omega
      rw [he] at hjt
      have hp := pat_end hk hjt
      rw [hp] at h
      cases h
      refine wp_seq_k (fun K23 hK23 => ?_)
      refine wp_seq_k (fun K24 hK24 => ?_)
      refine wl_region ?_
      refine wl_give rfl (g_move _ (.int .i64 (((j : Nat) : Int))) rfl ?_)
      (try simp only [Act.put, st_a, st_0, st_s])
      refine wl_give rfl (g_fa 34 _ (w.heap.size) (0) (3) 3 rfl (faRp3 _ _ _) ?_)
      (try simp only [Act.put, st_a, st_0, st_s])
      refine wl_give rfl (g_ld1 3 _ (w.heap.size) (3) _ rfl (ld3 _ _ _ _ ((hM.get 0 rfl).cell (3) _ (rfl))) ?_)
      (try simp only [Act.put, st_a, st_0, st_s])
      refine wl_give rfl (g_ileq 3 _ _ .i64 (((j : Nat) : Int)) ((P).ct) false rfl rfl (decide_eq_false hlt) ?_)
      (try simp only [Act.put, st_a, st_0, st_s])
      refine wl_nil ?_
      refine hK24 _ _ ?_
      (try clear hK24 K24)
      refine wp_cond_false rfl ?_
      refine wp_exit ?_
      refine hK8 _ _ ?_
      (try clear hK8 K8)
      refine wp_seq_k (fun K25 hK25 => ?_)
      refine wl_region ?_
      refine wl_give rfl (g_assign _ (.int .i64 (0)) rfl ?_)
      (try simp only [Act.put, st_a, st_0, st_s])
      refine wl_give rfl (g_assign _ (.int .i64 (10)) rfl ?_)
      (try simp only [Act.put, st_a, st_0, st_s])
      refine wl_nil ?_
      refine hK25 _ _ ?_
      (try clear hK25 K25)
      refine wp_ret ?_
      go_ret2
      exact ⟨rfl, hM.below⟩
theorem rat_any (P : Pl) (t : Int) (w : World) (J E : Int) (h : Shut (pat P t = (J, E))) : Calls Tryd.prog 34 #[.agg (plc P).toArray, .int .i64 t] w fun e w' => e = .returned (.tuple #[.int .i64 J, .int .i64 E]) ∧ Below w.heap.size w w' := by
  have h := h.out
  by_cases hk : POk P
  · by_cases h1 : t < P.st
    · rw [pat_wait hk h1] at h; cases h; exact rat_wait P t w hk h1
    · exact rat_in P t w hk h1 J E h
  · rw [pat_bad hk] at h; cases h; exact rat_bad P t w hk
set_option maxHeartbeats 4000000 in
theorem rtl_bad (P : Pl) (i : Int) (w : World) (hk : ¬ POk P) : Calls Tryd.prog 35 #[.agg (plc P).toArray, .int .i64 i] w fun e w' => e = .returned (.int .i64 0) ∧ Below w.heap.size w w' := by
  have hM := Ms.refl w
  go_enter Tryd.func35, Tryd.ntmps35
  refine wp_seq_k (fun K1 hK1 => ?_)
  refine wl_region ?_
  refine wl_give rfl (g_box 34 _ (plc (P)) rfl ?_)
  intro w2 t_ b_
  replace hM := hM.new t_ b_
  clear t_ b_
  (try simp only [Act.put, st_a, st_0, st_s])
  refine wl_give rfl (g_assign _ (.int .i64 (0)) rfl ?_)
  (try simp only [Act.put, st_a, st_0, st_s])
  refine wl_nil ?_
  refine hK1 _ _ ?_
  (try clear hK1 K1)
  refine wp_seq_k (fun K3 hK3 => ?_)
  refine wp_seq_k (fun K4 hK4 => ?_)
  refine wl_region ?_
  refine wl_give rfl (g_load_all 34 _ (w.heap.size) (plc (P)) 34 _ rfl (hM.get 0 rfl) Tryd.underlying34 rfl (szRp _) ?_)
  (try simp only [Act.put, st_a, st_0, st_s])
  refine wl_give rfl (g_call 44 _ _ [.agg (plc (P)).toArray] (kf44 _ _) rfl ((rmay_no P w2 hk).mono ?_))
  rintro e w5 ⟨rfl, t_⟩
  refine ⟨_, rfl, ?_⟩
  replace hM := hM.call t_
  clear t_
  (try simp only [Act.put, st_a, st_0, st_s])
  refine wl_give rfl (g_unot 4 _ false rfl ?_)
  (try simp only [Act.put, st_a, st_0, st_s])
  refine wl_give rfl (g_move _ (.bool true) rfl ?_)
  (try simp only [Act.put, st_a, st_0, st_s])
  refine wl_skip rfl ?_
  (try simp only [Act.put, st_a, st_0, st_s])
  refine wl_skip rfl ?_
  (try simp only [Act.put, st_a, st_0, st_s])
  refine wl_skip rfl ?_
  (try simp only [Act.put, st_a, st_0, st_s])
  refine wl_skip rfl ?_
  (try simp only [Act.put, st_a, st_0, st_s])
  refine wl_skip rfl ?_
  (try simp only [Act.put, st_a, st_0, st_s])
  refine wl_skip rfl ?_
  (try simp only [Act.put, st_a, st_0, st_s])
  refine wl_skip rfl ?_
  (try simp only [Act.put, st_a, st_0, st_s])
  refine wl_give rfl (g_pickt _ _ _ (.bool true) rfl rfl ?_)
  (try simp only [Act.put, st_a, st_0, st_s])
  refine wl_give rfl (g_move _ (.bool true) rfl ?_)
  (try simp only [Act.put, st_a, st_0, st_s])
  refine wl_skip rfl ?_
  (try simp only [Act.put, st_a, st_0, st_s])
  refine wl_skip rfl ?_
  (try simp only [Act.put, st_a, st_0, st_s])
  refine wl_skip rfl ?_
  (try simp only [Act.put, st_a, st_0, st_s])
  refine wl_skip rfl ?_
  (try simp only [Act.put, st_a, st_0, st_s])
  refine wl_give rfl (g_pickt _ _ _ (.bool true) rfl rfl ?_)
  (try simp only [Act.put, st_a, st_0, st_s])
  refine wl_nil ?_
  refine hK4 _ _ ?_
  (try clear hK4 K4)
  refine wp_cond_true rfl ?_
  refine wp_seq_k (fun K6 hK6 => ?_)
  refine wl_region ?_
  refine wl_give rfl (g_assign _ (.int .i64 (0)) rfl ?_)
  (try simp only [Act.put, st_a, st_0, st_s])
  refine wl_nil ?_
  refine hK6 _ _ ?_
  (try clear hK6 K6)
  refine wp_ret ?_
  go_ret
  exact ⟨rfl, hM.below⟩
set_option maxHeartbeats 4000000 in
theorem rtl_hi (P : Pl) (i : Int) (w : World) (hk : POk P) (e1 : Shut (IntKind.i64.wrap (P.ct + P.dl) = P.ct + P.dl)) (h1 : P.ct + P.dl < i) : Calls Tryd.prog 35 #[.agg (plc P).toArray, .int .i64 i] w fun e w' => e = .returned (.int .i64 0) ∧ Below w.heap.size w w' := by
  have hM := Ms.refl w
  go_enter Tryd.func35, Tryd.ntmps35
  refine wp_seq_k (fun K1 hK1 => ?_)
  refine wl_region ?_
  refine wl_give rfl (g_box 34 _ (plc (P)) rfl ?_)
  intro w2 t_ b_
  replace hM := hM.new t_ b_
  clear t_ b_
  (try simp only [Act.put, st_a, st_0, st_s])
  refine wl_give rfl (g_assign _ (.int .i64 (0)) rfl ?_)
  (try simp only [Act.put, st_a, st_0, st_s])
  refine wl_nil ?_
  refine hK1 _ _ ?_
  (try clear hK1 K1)
  refine wp_seq_k (fun K3 hK3 => ?_)
  refine wp_seq_k (fun K4 hK4 => ?_)
  refine wl_region ?_
  refine wl_give rfl (g_load_all 34 _ (w.heap.size) (plc (P)) 34 _ rfl (hM.get 0 rfl) Tryd.underlying34 rfl (szRp _) ?_)
  (try simp only [Act.put, st_a, st_0, st_s])
  refine wl_give rfl (g_call 44 _ _ [.agg (plc (P)).toArray] (kf44 _ _) rfl ((rmay_yes P w2 hk).mono ?_))
  rintro e w5 ⟨rfl, t_⟩
  refine ⟨_, rfl, ?_⟩
  replace hM := hM.call t_
  clear t_
  (try simp only [Act.put, st_a, st_0, st_s])
  refine wl_give rfl (g_unot 4 _ true rfl ?_)
  (try simp only [Act.put, st_a, st_0, st_s])
  refine wl_give rfl (g_move _ (.bool false) rfl ?_)
  (try simp only [Act.put, st_a, st_0, st_s])
  refine wl_give rfl (g_move _ (.int .i64 (i)) rfl ?_)
  (try simp only [Act.put, st_a, st_0, st_s])
  refine wl_give rfl (g_fa 34 _ (w.heap.size) (0) (3) 3 rfl (faRp3 _ _ _) ?_)
  (try simp only [Act.put, st_a, st_0, st_s])
  refine wl_give rfl (g_ld1 3 _ (w.heap.size) (3) _ rfl (ld3 _ _ _ _ ((hM.get 0 rfl).cell (3) _ (rfl))) ?_)
  (try simp only [Act.put, st_a, st_0, st_s])
  refine wl_give rfl (g_fa 34 _ (w.heap.size) (0) (2) 2 rfl (faRp2 _ _ _) ?_)
  (try simp only [Act.put, st_a, st_0, st_s])
  refine wl_give rfl (g_ld1 3 _ (w.heap.size) (2) _ rfl (ld3 _ _ _ _ ((hM.get 0 rfl).cell (2) _ (rfl))) ?_)
  (try simp only [Act.put, st_a, st_0, st_s])
  refine wl_give rfl (g_ia 3 _ _ .i64 (P.ct) (P.dl) (P.ct + P.dl) rfl rfl e1.out ?_)
  (try simp only [Act.put, st_a, st_0, st_s])
  refine wl_give rfl (g_igtr 3 _ _ .i64 (i) (P.ct + P.dl) true rfl rfl (decide_eq_true h1) ?_)
  (try simp only [Act.put, st_a, st_0, st_s])
  refine wl_give rfl (g_pickf _ _ _ (.bool true) rfl rfl ?_)
  (try simp only [Act.put, st_a, st_0, st_s])
  refine wl_give rfl (g_move _ (.bool true) rfl ?_)
  (try simp only [Act.put, st_a, st_0, st_s])
  refine wl_skip rfl ?_
  (try simp only [Act.put, st_a, st_0, st_s])
  refine wl_skip rfl ?_
  (try simp only [Act.put, st_a, st_0, st_s])
  refine wl_skip rfl ?_
  (try simp only [Act.put, st_a, st_0, st_s])
  refine wl_skip rfl ?_
  (try simp only [Act.put, st_a, st_0, st_s])
  refine wl_give rfl (g_pickt _ _ _ (.bool true) rfl rfl ?_)
  (try simp only [Act.put, st_a, st_0, st_s])
  refine wl_nil ?_
  refine hK4 _ _ ?_
  (try clear hK4 K4)
  refine wp_cond_true rfl ?_
  refine wp_seq_k (fun K6 hK6 => ?_)
  refine wl_region ?_
  refine wl_give rfl (g_assign _ (.int .i64 (0)) rfl ?_)
  (try simp only [Act.put, st_a, st_0, st_s])
  refine wl_nil ?_
  refine hK6 _ _ ?_
  (try clear hK6 K6)
  refine wp_ret ?_
  go_ret
  exact ⟨rfl, hM.below⟩
set_option maxHeartbeats 4000000 in
theorem rtl_lo (P : Pl) (i : Int) (w : World) (hk : POk P) (e1 : Shut (IntKind.i64.wrap (P.ct + P.dl) = P.ct + P.dl)) (h1 : ¬ P.ct + P.dl < i) (h2 : i ≤ P.dl) : Calls Tryd.prog 35 #[.agg (plc P).toArray, .int .i64 i] w fun e w' => e = .returned (.int .i64 0) ∧ Below w.heap.size w w' := by
  have hM := Ms.refl w
  go_enter Tryd.func35, Tryd.ntmps35
  refine wp_seq_k (fun K1 hK1 => ?_)
  refine wl_region ?_
  refine wl_give rfl (g_box 34 _ (plc (P)) rfl ?_)
  intro w2 t_ b_
  replace hM := hM.new t_ b_
  clear t_ b_
  (try simp only [Act.put, st_a, st_0, st_s])
  refine wl_give rfl (g_assign _ (.int .i64 (0)) rfl ?_)
  (try simp only [Act.put, st_a, st_0, st_s])
  refine wl_nil ?_
  refine hK1 _ _ ?_
  (try clear hK1 K1)
  refine wp_seq_k (fun K3 hK3 => ?_)
  refine wp_seq_k (fun K4 hK4 => ?_)
  refine wl_region ?_
  refine wl_give rfl (g_load_all 34 _ (w.heap.size) (plc (P)) 34 _ rfl (hM.get 0 rfl) Tryd.underlying34 rfl (szRp _) ?_)
  (try simp only [Act.put, st_a, st_0, st_s])
  refine wl_give rfl (g_call 44 _ _ [.agg (plc (P)).toArray] (kf44 _ _) rfl ((rmay_yes P w2 hk).mono ?_))
  rintro e w5 ⟨rfl, t_⟩
  refine ⟨_, rfl, ?_⟩
  replace hM := hM.call t_
  clear t_
  (try simp only [Act.put, st_a, st_0, st_s])
  refine wl_give rfl (g_unot 4 _ true rfl ?_)
  (try simp only [Act.put, st_a, st_0, st_s])
  refine wl_give rfl (g_move _ (.bool false) rfl ?_)
  (try simp only [Act.put, st_a, st_0, st_s])
  refine wl_give rfl (g_move _ (.int .i64 (i)) rfl ?_)
  (try simp only [Act.put, st_a, st_0, st_s])
  refine wl_give rfl (g_fa 34 _ (w.heap.size) (0) (3) 3 rfl (faRp3 _ _ _) ?_)
  (try simp only [Act.put, st_a, st_0, st_s])
  refine wl_give rfl (g_ld1 3 _ (w.heap.size) (3) _ rfl (ld3 _ _ _ _ ((hM.get 0 rfl).cell (3) _ (rfl))) ?_)
  (try simp only [Act.put, st_a, st_0, st_s])
  refine wl_give rfl (g_fa 34 _ (w.heap.size) (0) (2) 2 rfl (faRp2 _ _ _) ?_)
  (try simp only [Act.put, st_a, st_0, st_s])
  refine wl_give rfl (g_ld1 3 _ (w.heap.size) (2) _ rfl (ld3 _ _ _ _ ((hM.get 0 rfl).cell (2) _ (rfl))) ?_)
  (try simp only [Act.put, st_a, st_0, st_s])
  refine wl_give rfl (g_ia 3 _ _ .i64 (P.ct) (P.dl) (P.ct + P.dl) rfl rfl e1.out ?_)
  (try simp only [Act.put, st_a, st_0, st_s])
  refine wl_give rfl (g_igtr 3 _ _ .i64 (i) (P.ct + P.dl) false rfl rfl (decide_eq_false h1) ?_)
  (try simp only [Act.put, st_a, st_0, st_s])
  refine wl_give rfl (g_pickf _ _ _ (.bool false) rfl rfl ?_)
  (try simp only [Act.put, st_a, st_0, st_s])
  refine wl_give rfl (g_move _ (.bool false) rfl ?_)
  (try simp only [Act.put, st_a, st_0, st_s])
  refine wl_give rfl (g_move _ (.int .i64 (i)) rfl ?_)
  (try simp only [Act.put, st_a, st_0, st_s])
  refine wl_give rfl (g_fa 34 _ (w.heap.size) (0) (2) 2 rfl (faRp2 _ _ _) ?_)
  (try simp only [Act.put, st_a, st_0, st_s])
  refine wl_give rfl (g_ld1 3 _ (w.heap.size) (2) _ rfl (ld3 _ _ _ _ ((hM.get 0 rfl).cell (2) _ (rfl))) ?_)
  (try simp only [Act.put, st_a, st_0, st_s])
  refine wl_give rfl (g_ileq 3 _ _ .i64 (i) ((P).dl) true rfl rfl (decide_eq_true h2) ?_)
  (try simp only [Act.put, st_a, st_0, st_s])
  refine wl_give rfl (g_pickf _ _ _ (.bool true) rfl rfl ?_)
  (try simp only [Act.put, st_a, st_0, st_s])
  refine wl_nil ?_
  refine hK4 _ _ ?_
  (try clear hK4 K4)
  refine wp_cond_true rfl ?_
  refine wp_seq_k (fun K6 hK6 => ?_)
  refine wl_region ?_
  refine wl_give rfl (g_assign _ (.int .i64 (0)) rfl ?_)
  (try simp only [Act.put, st_a, st_0, st_s])
  refine wl_nil ?_
  refine hK6 _ _ ?_
  (try clear hK6 K6)
  refine wp_ret ?_
  go_ret
  exact ⟨rfl, hM.below⟩
set_option maxHeartbeats 4000000 in
theorem rtl_in (P : Pl) (i : Int) (w : World) (hk : POk P) (e1 : Shut (IntKind.i64.wrap (P.ct + P.dl) = P.ct + P.dl)) (h1 : ¬ P.ct + P.dl < i) (h2 : ¬ i ≤ P.dl) (e2 : Shut (IntKind.i64.wrap (i - P.dl) = i - P.dl)) : Calls Tryd.prog 35 #[.agg (plc P).toArray, .int .i64 i] w fun e w' => e = .returned (.int .i64 (i - P.dl)) ∧ Below w.heap.size w w' := by
  have hM := Ms.refl w
  go_enter Tryd.func35, Tryd.ntmps35
  refine wp_seq_k (fun K1 hK1 => ?_)
  refine wl_region ?_
  refine wl_give rfl (g_box 34 _ (plc (P)) rfl ?_)
  intro w2 t_ b_
  replace hM := hM.new t_ b_
  clear t_ b_
  (try simp only [Act.put, st_a, st_0, st_s])
  refine wl_give rfl (g_assign _ (.int .i64 (0)) rfl ?_)
  (try simp only [Act.put, st_a, st_0, st_s])
  refine wl_nil ?_
  refine hK1 _ _ ?_
  (try clear hK1 K1)
  refine wp_seq_k (fun K3 hK3 => ?_)
  refine wp_seq_k (fun K4 hK4 => ?_)
  refine wl_region ?_
  refine wl_give rfl (g_load_all 34 _ (w.heap.size) (plc (P)) 34 _ rfl (hM.get 0 rfl) Tryd.underlying34 rfl (szRp _) ?_)
  (try simp only [Act.put, st_a, st_0, st_s])
  refine wl_give rfl (g_call 44 _ _ [.agg (plc (P)).toArray] (kf44 _ _) rfl ((rmay_yes P w2 hk).mono ?_))
  rintro e w5 ⟨rfl, t_⟩
  refine ⟨_, rfl, ?_⟩
  replace hM := hM.call t_
  clear t_
  (try simp only [Act.put, st_a, st_0, st_s])
  refine wl_give rfl (g_unot 4 _ true rfl ?_)
  (try simp only [Act.put, st_a, st_0, st_s])
  refine wl_give rfl (g_move _ (.bool false) rfl ?_)
  (try simp only [Act.put, st_a, st_0, st_s])
  refine wl_give rfl (g_move _ (.int .i64 (i)) rfl ?_)
  (try simp only [Act.put, st_a, st_0, st_s])
  refine wl_give rfl (g_fa 34 _ (w.heap.size) (0) (3) 3 rfl (faRp3 _ _ _) ?_)
  (try simp only [Act.put, st_a, st_0, st_s])
  refine wl_give rfl (g_ld1 3 _ (w.heap.size) (3) _ rfl (ld3 _ _ _ _ ((hM.get 0 rfl).cell (3) _ (rfl))) ?_)
  (try simp only [Act.put, st_a, st_0, st_s])
  refine wl_give rfl (g_fa 34 _ (w.heap.size) (0) (2) 2 rfl (faRp2 _ _ _) ?_)
  (try simp only [Act.put, st_a, st_0, st_s])
  refine wl_give rfl (g_ld1 3 _ (w.heap.size) (2) _ rfl (ld3 _ _ _ _ ((hM.get 0 rfl).cell (2) _ (rfl))) ?_)
  (try simp only [Act.put, st_a, st_0, st_s])
  refine wl_give rfl (g_ia 3 _ _ .i64 (P.ct) (P.dl) (P.ct + P.dl) rfl rfl e1.out ?_)
  (try simp only [Act.put, st_a, st_0, st_s])
  refine wl_give rfl (g_igtr 3 _ _ .i64 (i) (P.ct + P.dl) false rfl rfl (decide_eq_false h1) ?_)
  (try simp only [Act.put, st_a, st_0, st_s])
  refine wl_give rfl (g_pickf _ _ _ (.bool false) rfl rfl ?_)
  (try simp only [Act.put, st_a, st_0, st_s])
  refine wl_give rfl (g_move _ (.bool false) rfl ?_)
  (try simp only [Act.put, st_a, st_0, st_s])
  refine wl_give rfl (g_move _ (.int .i64 (i)) rfl ?_)
  (try simp only [Act.put, st_a, st_0, st_s])
  refine wl_give rfl (g_fa 34 _ (w.heap.size) (0) (2) 2 rfl (faRp2 _ _ _) ?_)
  (try simp only [Act.put, st_a, st_0, st_s])
  refine wl_give rfl (g_ld1 3 _ (w.heap.size) (2) _ rfl (ld3 _ _ _ _ ((hM.get 0 rfl).cell (2) _ (rfl))) ?_)
  (try simp only [Act.put, st_a, st_0, st_s])
  refine wl_give rfl (g_ileq 3 _ _ .i64 (i) ((P).dl) false rfl rfl (decide_eq_false h2) ?_)
  (try simp only [Act.put, st_a, st_0, st_s])
  refine wl_give rfl (g_pickf _ _ _ (.bool false) rfl rfl ?_)
  (try simp only [Act.put, st_a, st_0, st_s])
  refine wl_nil ?_
  refine hK4 _ _ ?_
  (try clear hK4 K4)
  refine wp_cond_false rfl ?_
  refine wp_skip ?_
  refine hK3 _ _ ?_
  (try clear hK3 K3)
  refine wp_seq_k (fun K6 hK6 => ?_)
  refine wl_region ?_
  refine wl_give rfl (g_move _ (.int .i64 (i)) rfl ?_)
  (try simp only [Act.put, st_a, st_0, st_s])
  refine wl_give rfl (g_fa 34 _ (w.heap.size) (0) (2) 2 rfl (faRp2 _ _ _) ?_)
  (try simp only [Act.put, st_a, st_0, st_s])
  refine wl_give rfl (g_ld1 3 _ (w.heap.size) (2) _ rfl (ld3 _ _ _ _ ((hM.get 0 rfl).cell (2) _ (rfl))) ?_)
  (try simp only [Act.put, st_a, st_0, st_s])
  refine wl_give rfl (g_isub 3 _ _ .i64 (i) (P.dl) (i - P.dl) rfl rfl e2.out ?_)
  (try simp only [Act.put, st_a, st_0, st_s])
  refine wl_give rfl (g_assign _ (.int .i64 (i - P.dl)) rfl ?_)
  (try simp only [Act.put, st_a, st_0, st_s])
  refine wl_nil ?_
  refine hK6 _ _ ?_
  (try clear hK6 K6)
  refine wp_ret ?_
  go_ret
  exact ⟨rfl, hM.below⟩
theorem rtells_any (P : Pl) (i : Int) (w : World) (X : Int) (h : Shut (pte P i = X)) : Calls Tryd.prog 35 #[.agg (plc P).toArray, .int .i64 i] w fun e w' => e = .returned (.int .i64 X) ∧ Below w.heap.size w w' := by
  have h := h.out
  unfold pte at h
  by_cases hk : POk P
  · have e1 : Shut (IntKind.i64.wrap (P.ct + P.dl) = P.ct + P.dl) := ⟨wrap_id _ (by omega) (by omega)⟩
    by_cases h1 : P.ct + P.dl < i
    · rw [if_neg (fun hn => by omega)] at h; subst h; exact rtl_hi P i w hk e1 h1
    · by_cases h2 : i ≤ P.dl
      · have e : X = 0 := by
          rw [← h]; split
          · omega
          · rfl
        subst e; exact rtl_lo P i w hk e1 h1 h2
      · have e : X = i - P.dl := by rw [← h, if_pos ⟨hk, by omega, by omega⟩]; omega
        subst e; exact rtl_in P i w hk e1 h1 h2 ⟨wrap_id _ (by omega) (by omega)⟩
  · rw [if_neg (fun hn => hk hn.1)] at h; subst h; exact rtl_bad P i w hk
set_option maxHeartbeats 4000000 in
theorem rthen_bad (P : Pl) (w : World) (c1 X E : Int) (ec : Shut (IntKind.i64.wrap (P.ct + 1) = c1)) (hb : Shut (pbg P c1 = (X, E))) (hE : E ≠ 0) : Calls Tryd.prog 30 #[.agg (plc P).toArray] w fun e w' => e = .returned (.tuple #[.agg (plc pl0).toArray, .int .i64 E]) ∧ Below w.heap.size w w' := by
  have hM := Ms.refl w
  go_enter Tryd.func30, Tryd.ntmps30
  refine wp_seq_k (fun K1 hK1 => ?_)
  refine wl_region ?_
  refine wl_give rfl (g_box 34 _ (plc (P)) rfl ?_)
  intro w2 t_ b_
  replace hM := hM.new t_ b_
  clear t_ b_
  (try simp only [Act.put, st_a, st_0, st_s])
  refine wl_give rfl (g_alloc 34 (plc (pl0)) zeroRp ?_)
  intro w3 t_ b_
  replace hM := hM.new t_ b_
  clear t_ b_
  (try simp only [Act.put, st_a, st_0, st_s])
  refine wl_give rfl (g_assign _ (.int .i64 (0)) rfl ?_)
  (try simp only [Act.put, st_a, st_0, st_s])
  refine wl_nil ?_
  refine hK1 _ _ ?_
  (try clear hK1 K1)
  refine wp_seq_k (fun K4 hK4 => ?_)
  refine wl_region ?_
  refine wl_give rfl (g_load_all 34 _ (w.heap.size) (plc (P)) 34 _ rfl (hM.get 1 rfl) Tryd.underlying34 rfl (szRp _) ?_)
  (try simp only [Act.put, st_a, st_0, st_s])
  refine wl_give rfl (g_fa 34 _ (w.heap.size) (0) (3) 3 rfl (faRp3 _ _ _) ?_)
  (try simp only [Act.put, st_a, st_0, st_s])
  refine wl_give rfl (g_ld1 3 _ (w.heap.size) (3) _ rfl (ld3 _ _ _ _ ((hM.get 1 rfl).cell (3) _ (rfl))) ?_)
  (try simp only [Act.put, st_a, st_0, st_s])
  refine wl_give rfl (g_ia 3 _ _ .i64 (P.ct) (1) (c1) rfl rfl ec.out ?_)
  (try simp only [Act.put, st_a, st_0, st_s])
  refine wl_give rfl (g_call 23 _ _ [.agg (plc (P)).toArray, .int .i64 (c1)] (kf23 _ _) rfl ((rbegins_any P c1 w3 X E hb).mono ?_))
  rintro e w5 ⟨rfl, t_⟩
  refine ⟨_, rfl, ?_⟩
  replace hM := hM.call t_
  clear t_
  (try simp only [Act.put, st_a, st_0, st_s])
  refine wl_give rfl (g_move _ (.tuple #[.int .i64 (X), .int .i64 (E)]) rfl ?_)
  (try simp only [Act.put, st_a, st_0, st_s])
  refine wl_give rfl (g_extract _ #[.int .i64 (X), .int .i64 (E)] 0 (.int .i64 (X)) rfl rfl ?_)
  (try simp only [Act.put, st_a, st_0, st_s])
  refine wl_give rfl (g_extract _ #[.int .i64 (X), .int .i64 (E)] 1 (.int .i64 (E)) rfl rfl ?_)
  (try simp only [Act.put, st_a, st_0, st_s])
  refine wl_give rfl (g_assign _ (.int .i64 (X)) rfl ?_)
  (try simp only [Act.put, st_a, st_0, st_s])
  refine wl_give rfl (g_assign _ (.int .i64 (E)) rfl ?_)
  (try simp only [Act.put, st_a, st_0, st_s])
  refine wl_nil ?_
  refine hK4 _ _ ?_
  (try clear hK4 K4)
  refine wp_seq_k (fun K6 hK6 => ?_)
  refine wp_seq_k (fun K7 hK7 => ?_)
  refine wl_region ?_
  refine wl_give rfl (g_move _ (.int .i64 (E)) rfl ?_)
  (try simp only [Act.put, st_a, st_0, st_s])
  refine wl_give rfl (g_ine 29 _ _ .i64 (E) (0) true rfl rfl (decide_eq_true hE) ?_)
  (try simp only [Act.put, st_a, st_0, st_s])
  refine wl_nil ?_
  refine hK7 _ _ ?_
  (try clear hK7 K7)
  refine wp_cond_true rfl ?_
  refine wp_seq_k (fun K8 hK8 => ?_)
  refine wl_region ?_
  refine wl_give rfl (g_bldRp0 ?_)
  (try simp only [Act.put, st_a, st_0, st_s])
  refine wl_give rfl (g_move _ (.int .i64 (E)) rfl ?_)
  (try simp only [Act.put, st_a, st_0, st_s])
  refine wl_give rfl (g_store_all 34 _ _ (w2.heap.size) (plc (pl0)) _ 34 rfl rfl (hM.get 0 rfl) (szRp _) (pp_len _ _) (one_plc _) ?_)
  intro w9 t_ b_
  replace hM : Ms w w9 [blk (w2.heap.size) (plc (pl0)) 34, blk (w.heap.size) (plc (P)) 34] := hM.put 0 rfl t_ b_
  clear t_ b_
  (try simp only [Act.put, st_a, st_0, st_s])
  refine wl_give rfl (g_assign _ (.int .i64 (E)) rfl ?_)
  (try simp only [Act.put, st_a, st_0, st_s])
  refine wl_nil ?_
  refine hK8 _ _ ?_
  (try clear hK8 K8)
  refine wp_ret ?_
  (try simp only [Exit.inBlock, Exit.then])
  exact bodyPost_ret (results_blk_tmp rfl _ (plc (pl0)) (.int .i64 (E)) _ rfl rfl (hM.get 0 rfl) Tryd.underlying34 rfl (szRp _)) rfl ⟨rfl, hM.below⟩
set_option maxHeartbeats 4000000 in
theorem rthen_over (P : Pl) (w : World) (c1 X E : Int) (ec : Shut (IntKind.i64.wrap (P.ct + 1) = c1)) (hb : Shut (pbg P c1 = (X, E))) (hE : E = 0) (hX : 1152921504606846976 < X) : Calls Tryd.prog 30 #[.agg (plc P).toArray] w fun e w' => e = .returned (.tuple #[.agg (plc pl0).toArray, .int .i64 6]) ∧ Below w.heap.size w w' := by
  have hM := Ms.refl w
  go_enter Tryd.func30, Tryd.ntmps30
  refine wp_seq_k (fun K1 hK1 => ?_)
  refine wl_region ?_
  refine wl_give rfl (g_box 34 _ (plc (P)) rfl ?_)
  intro w2 t_ b_
  replace hM := hM.new t_ b_
  clear t_ b_
  (try simp only [Act.put, st_a, st_0, st_s])
  refine wl_give rfl (g_alloc 34 (plc (pl0)) zeroRp ?_)
  intro w3 t_ b_
  replace hM := hM.new t_ b_
  clear t_ b_
  (try simp only [Act.put, st_a, st_0, st_s])
  refine wl_give rfl (g_assign _ (.int .i64 (0)) rfl ?_)
  (try simp only [Act.put, st_a, st_0, st_s])
  refine wl_nil ?_
  refine hK1 _ _ ?_
  (try clear hK1 K1)
  refine wp_seq_k (fun K4 hK4 => ?_)
  refine wl_region ?_
  refine wl_give rfl (g_load_all 34 _ (w.heap.size) (plc (P)) 34 _ rfl (hM.get 1 rfl) Tryd.underlying34 rfl (szRp _) ?_)
  (try simp only [Act.put, st_a, st_0, st_s])
  refine wl_give rfl (g_fa 34 _ (w.heap.size) (0) (3) 3 rfl (faRp3 _ _ _) ?_)
  (try simp only [Act.put, st_a, st_0, st_s])
  refine wl_give rfl (g_ld1 3 _ (w.heap.size) (3) _ rfl (ld3 _ _ _ _ ((hM.get 1 rfl).cell (3) _ (rfl))) ?_)
  (try simp only [Act.put, st_a, st_0, st_s])
  refine wl_give rfl (g_ia 3 _ _ .i64 (P.ct) (1) (c1) rfl rfl ec.out ?_)
  (try simp only [Act.put, st_a, st_0, st_s])
  refine wl_give rfl (g_call 23 _ _ [.agg (plc (P)).toArray, .int .i64 (c1)] (kf23 _ _) rfl ((rbegins_any P c1 w3 X E hb).mono ?_))
  rintro e w5 ⟨rfl, t_⟩
  refine ⟨_, rfl, ?_⟩
  replace hM := hM.call t_
  clear t_
  (try simp only [Act.put, st_a, st_0, st_s])
  refine wl_give rfl (g_move _ (.tuple #[.int .i64 (X), .int .i64 (E)]) rfl ?_)
  (try simp only [Act.put, st_a, st_0, st_s])
  refine wl_give rfl (g_extract _ #[.int .i64 (X), .int .i64 (E)] 0 (.int .i64 (X)) rfl rfl ?_)
  (try simp only [Act.put, st_a, st_0, st_s])
  refine wl_give rfl (g_extract _ #[.int .i64 (X), .int .i64 (E)] 1 (.int .i64 (E)) rfl rfl ?_)
  (try simp only [Act.put, st_a, st_0, st_s])
  refine wl_give rfl (g_assign _ (.int .i64 (X)) rfl ?_)
  (try simp only [Act.put, st_a, st_0, st_s])
  refine wl_give rfl (g_assign _ (.int .i64 (E)) rfl ?_)
  (try simp only [Act.put, st_a, st_0, st_s])
  refine wl_nil ?_
  refine hK4 _ _ ?_
  (try clear hK4 K4)
  refine wp_seq_k (fun K6 hK6 => ?_)
  refine wp_seq_k (fun K7 hK7 => ?_)
  refine wl_region ?_
  refine wl_give rfl (g_move _ (.int .i64 (E)) rfl ?_)
  (try simp only [Act.put, st_a, st_0, st_s])
  refine wl_give rfl (g_ine 29 _ _ .i64 (E) (0) false rfl rfl (decide_eq_false (fun h => h hE)) ?_)
  (try simp only [Act.put, st_a, st_0, st_s])
  refine wl_nil ?_
  refine hK7 _ _ ?_
  (try clear hK7 K7)
  refine wp_cond_false rfl ?_
  refine wp_skip ?_
  refine hK6 _ _ ?_
  (try clear hK6 K6)
  refine wp_seq_k (fun K8 hK8 => ?_)
  refine wp_seq_k (fun K9 hK9 => ?_)
  refine wl_region ?_
  refine wl_give rfl (g_move _ (.int .i64 (X)) rfl ?_)
  (try simp only [Act.put, st_a, st_0, st_s])
  refine wl_give rfl (g_igtr 2 _ _ .i64 (X) (1152921504606846976) true rfl rfl (decide_eq_true hX) ?_)
  (try simp only [Act.put, st_a, st_0, st_s])
  refine wl_nil ?_
  refine hK9 _ _ ?_
  (try clear hK9 K9)
  refine wp_cond_true rfl ?_
  refine wp_seq_k (fun K10 hK10 => ?_)
  refine wl_region ?_
  refine wl_give rfl (g_bldRp0 ?_)
  (try simp only [Act.put, st_a, st_0, st_s])
  refine wl_give rfl (g_store_all 34 _ _ (w2.heap.size) (plc (pl0)) _ 34 rfl rfl (hM.get 0 rfl) (szRp _) (pp_len _ _) (one_plc _) ?_)
  intro w11 t_ b_
  replace hM : Ms w w11 [blk (w2.heap.size) (plc (pl0)) 34, blk (w.heap.size) (plc (P)) 34] := hM.put 0 rfl t_ b_
  clear t_ b_
  (try simp only [Act.put, st_a, st_0, st_s])
  refine wl_give rfl (g_assign _ (.int .i64 (6)) rfl ?_)
  (try simp only [Act.put, st_a, st_0, st_s])
  refine wl_nil ?_
  refine hK10 _ _ ?_
  (try clear hK10 K10)
  refine wp_ret ?_
  (try simp only [Exit.inBlock, Exit.then])
  exact bodyPost_ret (results_blk_tmp rfl _ (plc (pl0)) (.int .i64 (6)) _ rfl rfl (hM.get 0 rfl) Tryd.underlying34 rfl (szRp _)) rfl ⟨rfl, hM.below⟩
set_option maxHeartbeats 4000000 in
theorem rthen_ok (P : Pl) (w : World) (c1 X E : Int) (ec : Shut (IntKind.i64.wrap (P.ct + 1) = c1)) (hb : Shut (pbg P c1 = (X, E))) (hE : E = 0) (hX : ¬ 1152921504606846976 < X) : Calls Tryd.prog 30 #[.agg (plc P).toArray] w fun e w' => e = .returned (.tuple #[.agg (plc (⟨X, P.lg, P.dl, P.ct⟩ : Pl)).toArray, .int .i64 0]) ∧ Below w.heap.size w w' := by
  have hM := Ms.refl w
  go_enter Tryd.func30, Tryd.ntmps30
  refine wp_seq_k (fun K1 hK1 => ?_)
  refine wl_region ?_
  refine wl_give rfl (g_box 34 _ (plc (P)) rfl ?_)
  intro w2 t_ b_
  replace hM := hM.new t_ b_
  clear t_ b_
  (try simp only [Act.put, st_a, st_0, st_s])
  refine wl_give rfl (g_alloc 34 (plc (pl0)) zeroRp ?_)
  intro w3 t_ b_
  replace hM := hM.new t_ b_
  clear t_ b_
  (try simp only [Act.put, st_a, st_0, st_s])
  refine wl_give rfl (g_assign _ (.int .i64 (0)) rfl ?_)
  (try simp only [Act.put, st_a, st_0, st_s])
  refine wl_nil ?_
  refine hK1 _ _ ?_
  (try clear hK1 K1)
  refine wp_seq_k (fun K4 hK4 => ?_)
  refine wl_region ?_
  refine wl_give rfl (g_load_all 34 _ (w.heap.size) (plc (P)) 34 _ rfl (hM.get 1 rfl) Tryd.underlying34 rfl (szRp _) ?_)
  (try simp only [Act.put, st_a, st_0, st_s])
  refine wl_give rfl (g_fa 34 _ (w.heap.size) (0) (3) 3 rfl (faRp3 _ _ _) ?_)
  (try simp only [Act.put, st_a, st_0, st_s])
  refine wl_give rfl (g_ld1 3 _ (w.heap.size) (3) _ rfl (ld3 _ _ _ _ ((hM.get 1 rfl).cell (3) _ (rfl))) ?_)
  (try simp only [Act.put, st_a, st_0, st_s])
  refine wl_give rfl (g_ia 3 _ _ .i64 (P.ct) (1) (c1) rfl rfl ec.out ?_)
  (try simp only [Act.put, st_a, st_0, st_s])
  refine wl_give rfl (g_call 23 _ _ [.agg (plc (P)).toArray, .int .i64 (c1)] (kf23 _ _) rfl ((rbegins_any P c1 w3 X E hb).mono ?_))
  rintro e w5 ⟨rfl, t_⟩
  refine ⟨_, rfl, ?_⟩
  replace hM := hM.call t_
  clear t_
  (try simp only [Act.put, st_a, st_0, st_s])
  refine wl_give rfl (g_move _ (.tuple #[.int .i64 (X), .int .i64 (E)]) rfl ?_)
  (try simp only [Act.put, st_a, st_0, st_s])
  refine wl_give rfl (g_extract _ #[.int .i64 (X), .int .i64 (E)] 0 (.int .i64 (X)) rfl rfl ?_)
  (try simp only [Act.put, st_a, st_0, st_s])
  refine wl_give rfl (g_extract _ #[.int .i64 (X), .int .i64 (E)] 1 (.int .i64 (E)) rfl rfl ?_)
  (try simp only [Act.put, st_a, st_0, st_s])
  refine wl_give rfl (g_assign _ (.int .i64 (X)) rfl ?_)
  (try simp only [Act.put, st_a, st_0, st_s])
  refine wl_give rfl (g_assign _ (.int .i64 (E)) rfl ?_)
  (try simp only [Act.put, st_a, st_0, st_s])
  refine wl_nil ?_
  refine hK4 _ _ ?_
  (try clear hK4 K4)
  refine wp_seq_k (fun K6 hK6 => ?_)
  refine wp_seq_k (fun K7 hK7 => ?_)
  refine wl_region ?_
  refine wl_give rfl (g_move _ (.int .i64 (E)) rfl ?_)
  (try simp only [Act.put, st_a, st_0, st_s])
  refine wl_give rfl (g_ine 29 _ _ .i64 (E) (0) false rfl rfl (decide_eq_false (fun h => h hE)) ?_)
  (try simp only [Act.put, st_a, st_0, st_s])
  refine wl_nil ?_
  refine hK7 _ _ ?_
  (try clear hK7 K7)
  refine wp_cond_false rfl ?_
  refine wp_skip ?_
  refine hK6 _ _ ?_
  (try clear hK6 K6)
  refine wp_seq_k (fun K8 hK8 => ?_)
  refine wp_seq_k (fun K9 hK9 => ?_)
  refine wl_region ?_
  refine wl_give rfl (g_move _ (.int .i64 (X)) rfl ?_)
  (try simp only [Act.put, st_a, st_0, st_s])
  refine wl_give rfl (g_igtr 2 _ _ .i64 (X) (1152921504606846976) false rfl rfl (decide_eq_false hX) ?_)
  (try simp only [Act.put, st_a, st_0, st_s])
  refine wl_nil ?_
  refine hK9 _ _ ?_
  (try clear hK9 K9)
  refine wp_cond_false rfl ?_
  refine wp_skip ?_
  refine hK8 _ _ ?_
  (try clear hK8 K8)
  refine wp_seq_k (fun K10 hK10 => ?_)
  refine wl_region ?_
  refine wl_give rfl (g_move _ (.int .i64 (X)) rfl ?_)
  (try simp only [Act.put, st_a, st_0, st_s])
  refine wl_give rfl (g_fa 34 _ (w.heap.size) (0) (1) 1 rfl (faRp1 _ _ _) ?_)
  (try simp only [Act.put, st_a, st_0, st_s])
  refine wl_give rfl (g_ld1 2 _ (w.heap.size) (1) _ rfl (ld2 _ _ _ _ ((hM.get 1 rfl).cell (1) _ (rfl))) ?_)
  (try simp only [Act.put, st_a, st_0, st_s])
  refine wl_give rfl (g_fa 34 _ (w.heap.size) (0) (2) 2 rfl (faRp2 _ _ _) ?_)
  (try simp only [Act.put, st_a, st_0, st_s])
  refine wl_give rfl (g_ld1 3 _ (w.heap.size) (2) _ rfl (ld3 _ _ _ _ ((hM.get 1 rfl).cell (2) _ (rfl))) ?_)
  (try simp only [Act.put, st_a, st_0, st_s])
  refine wl_give rfl (g_fa 34 _ (w.heap.size) (0) (3) 3 rfl (faRp3 _ _ _) ?_)
  (try simp only [Act.put, st_a, st_0, st_s])
  refine wl_give rfl (g_ld1 3 _ (w.heap.size) (3) _ rfl (ld3 _ _ _ _ ((hM.get 1 rfl).cell (3) _ (rfl))) ?_)
  (try simp only [Act.put, st_a, st_0, st_s])
  refine wl_give rfl (g_bldRp _ _ _ _ (⟨X, (P).lg, (P).dl, (P).ct⟩ : Pl) rfl rfl rfl rfl ?_)
  (try simp only [Act.put, st_a, st_0, st_s])
  refine wl_give rfl (g_store_all 34 _ _ (w2.heap.size) (plc ((⟨X, (P).lg, (P).dl, (P).ct⟩ : Pl))) _ 34 rfl rfl (hM.get 0 rfl) (szRp _) (pp_len _ _) (one_plc _) ?_)
  intro w11 t_ b_
  replace hM : Ms w w11 [blk (w2.heap.size) (plc ((⟨X, (P).lg, (P).dl, (P).ct⟩ : Pl))) 34, blk (w.heap.size) (plc (P)) 34] := hM.put 0 rfl t_ b_
  clear t_ b_
  (try simp only [Act.put, st_a, st_0, st_s])
  refine wl_give rfl (g_assign _ (.int .i64 (0)) rfl ?_)
  (try simp only [Act.put, st_a, st_0, st_s])
  refine wl_nil ?_
  refine hK10 _ _ ?_
  (try clear hK10 K10)
  refine wp_ret ?_
  (try simp only [Exit.inBlock, Exit.then])
  exact bodyPost_ret (results_blk_tmp rfl _ (plc ((⟨X, (P).lg, (P).dl, (P).ct⟩ : Pl))) (.int .i64 (0)) _ rfl rfl (hM.get 0 rfl) Tryd.underlying34 rfl (szRp _)) rfl ⟨rfl, hM.below⟩
theorem rthen_any (P : Pl) (w : World) (hp : PIn P) (q : Pl) (E : Int) (h : Shut (pth P = (q, E))) : Calls Tryd.prog 30 #[.agg (plc P).toArray] w fun e w' => e = .returned (.tuple #[.agg (plc q).toArray, .int .i64 E]) ∧ Below w.heap.size w w' := by
  have h := h.out
  unfold pth at h
  by_cases hk : POk P
  · rw [if_neg (fun hn => hn hk)] at h
    have ec : Shut (IntKind.i64.wrap (P.ct + 1) = P.ct + 1) := ⟨wrap_id _ (by omega) (by omega)⟩
    have hb : Shut (pbg P (P.ct + 1) = (bgn P (P.ct + 1), 0)) := ⟨by unfold pbg; rw [if_pos ⟨hk, by omega, by omega⟩]⟩
    by_cases hX : 1152921504606846976 < bgn P (P.ct + 1)
    · rw [if_pos hX] at h; cases h; exact rthen_over P w _ _ 0 ec hb rfl hX
    · rw [if_neg hX] at h; cases h; exact rthen_ok P w _ _ 0 ec hb rfl hX
  · rw [if_pos hk] at h; cases h
    exact rthen_bad P w _ 0 1 ⟨rfl⟩ ⟨by unfold pbg; rw [if_neg (fun hn => hk hn.1)]⟩ (by decide)
end Go.Proofs.YtphocklnhoakcaaDoor
