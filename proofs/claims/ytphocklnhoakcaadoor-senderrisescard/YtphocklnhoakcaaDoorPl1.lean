/- What the program's plan.May, asker and the function that it makes, moment, Begins, End, Tells and Then answer. -/
import Derived.Test.YtphocklnhoakcaaDoorSdOps
import Derived.Test.YtphocklnhoakcaaDoorWd
import Derived.WalkKit
import Derived.WalkSpells
import Derived.WalkLawsBesides
namespace Go.Proofs.YtphocklnhoakcaaDoor
set_option maxRecDepth 10000
open Go Go.RowKit
set_option linter.unusedVariables false
set_option linter.unusedSimpArgs false

set_option maxHeartbeats 4000000 in
theorem pmay_0 (P : Pl) (w : World)  (c0 : ¬ -1152921504606846976 ≤ P.st) : Calls Tryd.prog 11 #[.agg (plc P).toArray] w fun e w' => e = .returned (.bool false) ∧ Below w.heap.size w w' := by
  have hM := Ms.refl w
  go_enter Tryd.func11, Tryd.ntmps11
  refine wp_seq_k (fun K1 hK1 => ?_)
  refine wl_region ?_
  refine wl_give rfl (g_box 25 _ (plc (P)) rfl ?_)
  intro w2 t_ b_
  replace hM := hM.new t_ b_
  clear t_ b_
  (try simp only [Act.put, st_a, st_0, st_s])
  refine wl_give rfl (g_assign _ (.bool false) rfl ?_)
  (try simp only [Act.put, st_a, st_0, st_s])
  refine wl_nil ?_
  refine hK1 _ _ ?_
  (try clear hK1 K1)
  refine wp_seq_k (fun K3 hK3 => ?_)
  (try simp only [List.append_eq, List.cons_append, List.nil_append])
  refine wl_region ?_
  refine wl_give rfl (g_fa 25 _ (w.heap.size) (0) (0) 0 rfl (faPl0 _ _ _) ?_)
  (try simp only [Act.put, st_a, st_0, st_s])
  refine wl_give rfl (g_ld1 2 _ (w.heap.size) (0) _ rfl (ld2 _ _ _ _ ((hM.get 0 rfl).cell (0) _ (rfl))) ?_)
  (try simp only [Act.put, st_a, st_0, st_s])
  refine wl_give rfl (g_ileq 2 _ _ .i64 (-1152921504606846976) ((P).st) false rfl rfl (decide_eq_false c0) ?_)
  (try simp only [Act.put, st_a, st_0, st_s])
  refine wl_give rfl (g_move _ (.bool false) rfl ?_)
  (try simp only [Act.put, st_a, st_0, st_s])
  refine wl_skip rfl ?_
  (try simp only [Act.put, st_a, st_0, st_s])
  refine wl_skip rfl ?_
  (try simp only [Act.put, st_a, st_0, st_s])
  refine wl_skip rfl ?_
  (try simp only [Act.put, st_a, st_0, st_s])
  refine wl_give rfl (g_pickf _ _ _ (.bool false) rfl rfl ?_)
  (try simp only [Act.put, st_a, st_0, st_s])
  refine wl_give rfl (g_move _ (.bool false) rfl ?_)
  (try simp only [Act.put, st_a, st_0, st_s])
  refine wl_skip rfl ?_
  (try simp only [Act.put, st_a, st_0, st_s])
  refine wl_skip rfl ?_
  (try simp only [Act.put, st_a, st_0, st_s])
  refine wl_skip rfl ?_
  (try simp only [Act.put, st_a, st_0, st_s])
  refine wl_give rfl (g_pickf _ _ _ (.bool false) rfl rfl ?_)
  (try simp only [Act.put, st_a, st_0, st_s])
  refine wl_give rfl (g_move _ (.bool false) rfl ?_)
  (try simp only [Act.put, st_a, st_0, st_s])
  refine wl_skip rfl ?_
  (try simp only [Act.put, st_a, st_0, st_s])
  refine wl_skip rfl ?_
  (try simp only [Act.put, st_a, st_0, st_s])
  refine wl_skip rfl ?_
  (try simp only [Act.put, st_a, st_0, st_s])
  refine wl_give rfl (g_pickf _ _ _ (.bool false) rfl rfl ?_)
  (try simp only [Act.put, st_a, st_0, st_s])
  refine wl_give rfl (g_move _ (.bool false) rfl ?_)
  (try simp only [Act.put, st_a, st_0, st_s])
  refine wl_skip rfl ?_
  (try simp only [Act.put, st_a, st_0, st_s])
  refine wl_skip rfl ?_
  (try simp only [Act.put, st_a, st_0, st_s])
  refine wl_skip rfl ?_
  (try simp only [Act.put, st_a, st_0, st_s])
  refine wl_give rfl (g_pickf _ _ _ (.bool false) rfl rfl ?_)
  (try simp only [Act.put, st_a, st_0, st_s])
  refine wl_give rfl (g_move _ (.bool false) rfl ?_)
  (try simp only [Act.put, st_a, st_0, st_s])
  refine wl_skip rfl ?_
  (try simp only [Act.put, st_a, st_0, st_s])
  refine wl_skip rfl ?_
  (try simp only [Act.put, st_a, st_0, st_s])
  refine wl_skip rfl ?_
  (try simp only [Act.put, st_a, st_0, st_s])
  refine wl_give rfl (g_pickf _ _ _ (.bool false) rfl rfl ?_)
  (try simp only [Act.put, st_a, st_0, st_s])
  refine wl_give rfl (g_move _ (.bool false) rfl ?_)
  (try simp only [Act.put, st_a, st_0, st_s])
  refine wl_skip rfl ?_
  (try simp only [Act.put, st_a, st_0, st_s])
  refine wl_skip rfl ?_
  (try simp only [Act.put, st_a, st_0, st_s])
  refine wl_skip rfl ?_
  (try simp only [Act.put, st_a, st_0, st_s])
  refine wl_give rfl (g_pickf _ _ _ (.bool false) rfl rfl ?_)
  (try simp only [Act.put, st_a, st_0, st_s])
  refine wl_give rfl (g_move _ (.bool false) rfl ?_)
  (try simp only [Act.put, st_a, st_0, st_s])
  refine wl_skip rfl ?_
  (try simp only [Act.put, st_a, st_0, st_s])
  refine wl_skip rfl ?_
  (try simp only [Act.put, st_a, st_0, st_s])
  refine wl_skip rfl ?_
  (try simp only [Act.put, st_a, st_0, st_s])
  refine wl_give rfl (g_pickf _ _ _ (.bool false) rfl rfl ?_)
  (try simp only [Act.put, st_a, st_0, st_s])
  refine wl_give rfl (g_assign _ (.bool false) rfl ?_)
  (try simp only [Act.put, st_a, st_0, st_s])
  refine wl_nil ?_
  refine hK3 _ _ ?_
  (try clear hK3 K3)
  refine wp_ret ?_
  go_ret
  exact ⟨rfl, hM.below⟩
set_option maxHeartbeats 4000000 in
theorem pmay_1 (P : Pl) (w : World) (c0 : -1152921504606846976 ≤ P.st) (c1 : ¬ P.st ≤ 1152921504606846976) : Calls Tryd.prog 11 #[.agg (plc P).toArray] w fun e w' => e = .returned (.bool false) ∧ Below w.heap.size w w' := by
  have hM := Ms.refl w
  go_enter Tryd.func11, Tryd.ntmps11
  refine wp_seq_k (fun K1 hK1 => ?_)
  refine wl_region ?_
  refine wl_give rfl (g_box 25 _ (plc (P)) rfl ?_)
  intro w2 t_ b_
  replace hM := hM.new t_ b_
  clear t_ b_
  (try simp only [Act.put, st_a, st_0, st_s])
  refine wl_give rfl (g_assign _ (.bool false) rfl ?_)
  (try simp only [Act.put, st_a, st_0, st_s])
  refine wl_nil ?_
  refine hK1 _ _ ?_
  (try clear hK1 K1)
  refine wp_seq_k (fun K3 hK3 => ?_)
  (try simp only [List.append_eq, List.cons_append, List.nil_append])
  refine wl_region ?_
  refine wl_give rfl (g_fa 25 _ (w.heap.size) (0) (0) 0 rfl (faPl0 _ _ _) ?_)
  (try simp only [Act.put, st_a, st_0, st_s])
  refine wl_give rfl (g_ld1 2 _ (w.heap.size) (0) _ rfl (ld2 _ _ _ _ ((hM.get 0 rfl).cell (0) _ (rfl))) ?_)
  (try simp only [Act.put, st_a, st_0, st_s])
  refine wl_give rfl (g_ileq 2 _ _ .i64 (-1152921504606846976) ((P).st) true rfl rfl (decide_eq_true c0) ?_)
  (try simp only [Act.put, st_a, st_0, st_s])
  refine wl_give rfl (g_move _ (.bool true) rfl ?_)
  (try simp only [Act.put, st_a, st_0, st_s])
  refine wl_give rfl (g_fa 25 _ (w.heap.size) (0) (0) 0 rfl (faPl0 _ _ _) ?_)
  (try simp only [Act.put, st_a, st_0, st_s])
  refine wl_give rfl (g_ld1 2 _ (w.heap.size) (0) _ rfl (ld2 _ _ _ _ ((hM.get 0 rfl).cell (0) _ (rfl))) ?_)
  (try simp only [Act.put, st_a, st_0, st_s])
  refine wl_give rfl (g_ileq 2 _ _ .i64 ((P).st) (1152921504606846976) false rfl rfl (decide_eq_false c1) ?_)
  (try simp only [Act.put, st_a, st_0, st_s])
  refine wl_give rfl (g_pickt _ _ _ (.bool false) rfl rfl ?_)
  (try simp only [Act.put, st_a, st_0, st_s])
  refine wl_give rfl (g_move _ (.bool false) rfl ?_)
  (try simp only [Act.put, st_a, st_0, st_s])
  refine wl_skip rfl ?_
  (try simp only [Act.put, st_a, st_0, st_s])
  refine wl_skip rfl ?_
  (try simp only [Act.put, st_a, st_0, st_s])
  refine wl_skip rfl ?_
  (try simp only [Act.put, st_a, st_0, st_s])
  refine wl_give rfl (g_pickf _ _ _ (.bool false) rfl rfl ?_)
  (try simp only [Act.put, st_a, st_0, st_s])
  refine wl_give rfl (g_move _ (.bool false) rfl ?_)
  (try simp only [Act.put, st_a, st_0, st_s])
  refine wl_skip rfl ?_
  (try simp only [Act.put, st_a, st_0, st_s])
  refine wl_skip rfl ?_
  (try simp only [Act.put, st_a, st_0, st_s])
  refine wl_skip rfl ?_
  (try simp only [Act.put, st_a, st_0, st_s])
  refine wl_give rfl (g_pickf _ _ _ (.bool false) rfl rfl ?_)
  (try simp only [Act.put, st_a, st_0, st_s])
  refine wl_give rfl (g_move _ (.bool false) rfl ?_)
  (try simp only [Act.put, st_a, st_0, st_s])
  refine wl_skip rfl ?_
  (try simp only [Act.put, st_a, st_0, st_s])
  refine wl_skip rfl ?_
  (try simp only [Act.put, st_a, st_0, st_s])
  refine wl_skip rfl ?_
  (try simp only [Act.put, st_a, st_0, st_s])
  refine wl_give rfl (g_pickf _ _ _ (.bool false) rfl rfl ?_)
  (try simp only [Act.put, st_a, st_0, st_s])
  refine wl_give rfl (g_move _ (.bool false) rfl ?_)
  (try simp only [Act.put, st_a, st_0, st_s])
  refine wl_skip rfl ?_
  (try simp only [Act.put, st_a, st_0, st_s])
  refine wl_skip rfl ?_
  (try simp only [Act.put, st_a, st_0, st_s])
  refine wl_skip rfl ?_
  (try simp only [Act.put, st_a, st_0, st_s])
  refine wl_give rfl (g_pickf _ _ _ (.bool false) rfl rfl ?_)
  (try simp only [Act.put, st_a, st_0, st_s])
  refine wl_give rfl (g_move _ (.bool false) rfl ?_)
  (try simp only [Act.put, st_a, st_0, st_s])
  refine wl_skip rfl ?_
  (try simp only [Act.put, st_a, st_0, st_s])
  refine wl_skip rfl ?_
  (try simp only [Act.put, st_a, st_0, st_s])
  refine wl_skip rfl ?_
  (try simp only [Act.put, st_a, st_0, st_s])
  refine wl_give rfl (g_pickf _ _ _ (.bool false) rfl rfl ?_)
  (try simp only [Act.put, st_a, st_0, st_s])
  refine wl_give rfl (g_move _ (.bool false) rfl ?_)
  (try simp only [Act.put, st_a, st_0, st_s])
  refine wl_skip rfl ?_
  (try simp only [Act.put, st_a, st_0, st_s])
  refine wl_skip rfl ?_
  (try simp only [Act.put, st_a, st_0, st_s])
  refine wl_skip rfl ?_
  (try simp only [Act.put, st_a, st_0, st_s])
  refine wl_give rfl (g_pickf _ _ _ (.bool false) rfl rfl ?_)
  (try simp only [Act.put, st_a, st_0, st_s])
  refine wl_give rfl (g_assign _ (.bool false) rfl ?_)
  (try simp only [Act.put, st_a, st_0, st_s])
  refine wl_nil ?_
  refine hK3 _ _ ?_
  (try clear hK3 K3)
  refine wp_ret ?_
  go_ret
  exact ⟨rfl, hM.below⟩
set_option maxHeartbeats 4000000 in
theorem pmay_2 (P : Pl) (w : World) (c0 : -1152921504606846976 ≤ P.st) (c1 : P.st ≤ 1152921504606846976) (c2 : ¬ 1 ≤ P.lg) : Calls Tryd.prog 11 #[.agg (plc P).toArray] w fun e w' => e = .returned (.bool false) ∧ Below w.heap.size w w' := by
  have hM := Ms.refl w
  go_enter Tryd.func11, Tryd.ntmps11
  refine wp_seq_k (fun K1 hK1 => ?_)
  refine wl_region ?_
  refine wl_give rfl (g_box 25 _ (plc (P)) rfl ?_)
  intro w2 t_ b_
  replace hM := hM.new t_ b_
  clear t_ b_
  (try simp only [Act.put, st_a, st_0, st_s])
  refine wl_give rfl (g_assign _ (.bool false) rfl ?_)
  (try simp only [Act.put, st_a, st_0, st_s])
  refine wl_nil ?_
  refine hK1 _ _ ?_
  (try clear hK1 K1)
  refine wp_seq_k (fun K3 hK3 => ?_)
  (try simp only [List.append_eq, List.cons_append, List.nil_append])
  refine wl_region ?_
  refine wl_give rfl (g_fa 25 _ (w.heap.size) (0) (0) 0 rfl (faPl0 _ _ _) ?_)
  (try simp only [Act.put, st_a, st_0, st_s])
  refine wl_give rfl (g_ld1 2 _ (w.heap.size) (0) _ rfl (ld2 _ _ _ _ ((hM.get 0 rfl).cell (0) _ (rfl))) ?_)
  (try simp only [Act.put, st_a, st_0, st_s])
  refine wl_give rfl (g_ileq 2 _ _ .i64 (-1152921504606846976) ((P).st) true rfl rfl (decide_eq_true c0) ?_)
  (try simp only [Act.put, st_a, st_0, st_s])
  refine wl_give rfl (g_move _ (.bool true) rfl ?_)
  (try simp only [Act.put, st_a, st_0, st_s])
  refine wl_give rfl (g_fa 25 _ (w.heap.size) (0) (0) 0 rfl (faPl0 _ _ _) ?_)
  (try simp only [Act.put, st_a, st_0, st_s])
  refine wl_give rfl (g_ld1 2 _ (w.heap.size) (0) _ rfl (ld2 _ _ _ _ ((hM.get 0 rfl).cell (0) _ (rfl))) ?_)
  (try simp only [Act.put, st_a, st_0, st_s])
  refine wl_give rfl (g_ileq 2 _ _ .i64 ((P).st) (1152921504606846976) true rfl rfl (decide_eq_true c1) ?_)
  (try simp only [Act.put, st_a, st_0, st_s])
  refine wl_give rfl (g_pickt _ _ _ (.bool true) rfl rfl ?_)
  (try simp only [Act.put, st_a, st_0, st_s])
  refine wl_give rfl (g_move _ (.bool true) rfl ?_)
  (try simp only [Act.put, st_a, st_0, st_s])
  refine wl_give rfl (g_fa 25 _ (w.heap.size) (0) (1) 1 rfl (faPl1 _ _ _) ?_)
  (try simp only [Act.put, st_a, st_0, st_s])
  refine wl_give rfl (g_ld1 2 _ (w.heap.size) (1) _ rfl (ld2 _ _ _ _ ((hM.get 0 rfl).cell (1) _ (rfl))) ?_)
  (try simp only [Act.put, st_a, st_0, st_s])
  refine wl_give rfl (g_ileq 2 _ _ .i64 (1) ((P).lg) false rfl rfl (decide_eq_false c2) ?_)
  (try simp only [Act.put, st_a, st_0, st_s])
  refine wl_give rfl (g_pickt _ _ _ (.bool false) rfl rfl ?_)
  (try simp only [Act.put, st_a, st_0, st_s])
  refine wl_give rfl (g_move _ (.bool false) rfl ?_)
  (try simp only [Act.put, st_a, st_0, st_s])
  refine wl_skip rfl ?_
  (try simp only [Act.put, st_a, st_0, st_s])
  refine wl_skip rfl ?_
  (try simp only [Act.put, st_a, st_0, st_s])
  refine wl_skip rfl ?_
  (try simp only [Act.put, st_a, st_0, st_s])
  refine wl_give rfl (g_pickf _ _ _ (.bool false) rfl rfl ?_)
  (try simp only [Act.put, st_a, st_0, st_s])
  refine wl_give rfl (g_move _ (.bool false) rfl ?_)
  (try simp only [Act.put, st_a, st_0, st_s])
  refine wl_skip rfl ?_
  (try simp only [Act.put, st_a, st_0, st_s])
  refine wl_skip rfl ?_
  (try simp only [Act.put, st_a, st_0, st_s])
  refine wl_skip rfl ?_
  (try simp only [Act.put, st_a, st_0, st_s])
  refine wl_give rfl (g_pickf _ _ _ (.bool false) rfl rfl ?_)
  (try simp only [Act.put, st_a, st_0, st_s])
  refine wl_give rfl (g_move _ (.bool false) rfl ?_)
  (try simp only [Act.put, st_a, st_0, st_s])
  refine wl_skip rfl ?_
  (try simp only [Act.put, st_a, st_0, st_s])
  refine wl_skip rfl ?_
  (try simp only [Act.put, st_a, st_0, st_s])
  refine wl_skip rfl ?_
  (try simp only [Act.put, st_a, st_0, st_s])
  refine wl_give rfl (g_pickf _ _ _ (.bool false) rfl rfl ?_)
  (try simp only [Act.put, st_a, st_0, st_s])
  refine wl_give rfl (g_move _ (.bool false) rfl ?_)
  (try simp only [Act.put, st_a, st_0, st_s])
  refine wl_skip rfl ?_
  (try simp only [Act.put, st_a, st_0, st_s])
  refine wl_skip rfl ?_
  (try simp only [Act.put, st_a, st_0, st_s])
  refine wl_skip rfl ?_
  (try simp only [Act.put, st_a, st_0, st_s])
  refine wl_give rfl (g_pickf _ _ _ (.bool false) rfl rfl ?_)
  (try simp only [Act.put, st_a, st_0, st_s])
  refine wl_give rfl (g_move _ (.bool false) rfl ?_)
  (try simp only [Act.put, st_a, st_0, st_s])
  refine wl_skip rfl ?_
  (try simp only [Act.put, st_a, st_0, st_s])
  refine wl_skip rfl ?_
  (try simp only [Act.put, st_a, st_0, st_s])
  refine wl_skip rfl ?_
  (try simp only [Act.put, st_a, st_0, st_s])
  refine wl_give rfl (g_pickf _ _ _ (.bool false) rfl rfl ?_)
  (try simp only [Act.put, st_a, st_0, st_s])
  refine wl_give rfl (g_assign _ (.bool false) rfl ?_)
  (try simp only [Act.put, st_a, st_0, st_s])
  refine wl_nil ?_
  refine hK3 _ _ ?_
  (try clear hK3 K3)
  refine wp_ret ?_
  go_ret
  exact ⟨rfl, hM.below⟩
set_option maxHeartbeats 4000000 in
theorem pmay_3 (P : Pl) (w : World) (c0 : -1152921504606846976 ≤ P.st) (c1 : P.st ≤ 1152921504606846976) (c2 : 1 ≤ P.lg) (c3 : ¬ P.lg ≤ 1099511627776) : Calls Tryd.prog 11 #[.agg (plc P).toArray] w fun e w' => e = .returned (.bool false) ∧ Below w.heap.size w w' := by
  have hM := Ms.refl w
  go_enter Tryd.func11, Tryd.ntmps11
  refine wp_seq_k (fun K1 hK1 => ?_)
  refine wl_region ?_
  refine wl_give rfl (g_box 25 _ (plc (P)) rfl ?_)
  intro w2 t_ b_
  replace hM := hM.new t_ b_
  clear t_ b_
  (try simp only [Act.put, st_a, st_0, st_s])
  refine wl_give rfl (g_assign _ (.bool false) rfl ?_)
  (try simp only [Act.put, st_a, st_0, st_s])
  refine wl_nil ?_
  refine hK1 _ _ ?_
  (try clear hK1 K1)
  refine wp_seq_k (fun K3 hK3 => ?_)
  (try simp only [List.append_eq, List.cons_append, List.nil_append])
  refine wl_region ?_
  refine wl_give rfl (g_fa 25 _ (w.heap.size) (0) (0) 0 rfl (faPl0 _ _ _) ?_)
  (try simp only [Act.put, st_a, st_0, st_s])
  refine wl_give rfl (g_ld1 2 _ (w.heap.size) (0) _ rfl (ld2 _ _ _ _ ((hM.get 0 rfl).cell (0) _ (rfl))) ?_)
  (try simp only [Act.put, st_a, st_0, st_s])
  refine wl_give rfl (g_ileq 2 _ _ .i64 (-1152921504606846976) ((P).st) true rfl rfl (decide_eq_true c0) ?_)
  (try simp only [Act.put, st_a, st_0, st_s])
  refine wl_give rfl (g_move _ (.bool true) rfl ?_)
  (try simp only [Act.put, st_a, st_0, st_s])
  refine wl_give rfl (g_fa 25 _ (w.heap.size) (0) (0) 0 rfl (faPl0 _ _ _) ?_)
  (try simp only [Act.put, st_a, st_0, st_s])
  refine wl_give rfl (g_ld1 2 _ (w.heap.size) (0) _ rfl (ld2 _ _ _ _ ((hM.get 0 rfl).cell (0) _ (rfl))) ?_)
  (try simp only [Act.put, st_a, st_0, st_s])
  refine wl_give rfl (g_ileq 2 _ _ .i64 ((P).st) (1152921504606846976) true rfl rfl (decide_eq_true c1) ?_)
  (try simp only [Act.put, st_a, st_0, st_s])
  refine wl_give rfl (g_pickt _ _ _ (.bool true) rfl rfl ?_)
  (try simp only [Act.put, st_a, st_0, st_s])
  refine wl_give rfl (g_move _ (.bool true) rfl ?_)
  (try simp only [Act.put, st_a, st_0, st_s])
  refine wl_give rfl (g_fa 25 _ (w.heap.size) (0) (1) 1 rfl (faPl1 _ _ _) ?_)
  (try simp only [Act.put, st_a, st_0, st_s])
  refine wl_give rfl (g_ld1 2 _ (w.heap.size) (1) _ rfl (ld2 _ _ _ _ ((hM.get 0 rfl).cell (1) _ (rfl))) ?_)
  (try simp only [Act.put, st_a, st_0, st_s])
  refine wl_give rfl (g_ileq 2 _ _ .i64 (1) ((P).lg) true rfl rfl (decide_eq_true c2) ?_)
  (try simp only [Act.put, st_a, st_0, st_s])
  refine wl_give rfl (g_pickt _ _ _ (.bool true) rfl rfl ?_)
  (try simp only [Act.put, st_a, st_0, st_s])
  refine wl_give rfl (g_move _ (.bool true) rfl ?_)
  (try simp only [Act.put, st_a, st_0, st_s])
  refine wl_give rfl (g_fa 25 _ (w.heap.size) (0) (1) 1 rfl (faPl1 _ _ _) ?_)
  (try simp only [Act.put, st_a, st_0, st_s])
  refine wl_give rfl (g_ld1 2 _ (w.heap.size) (1) _ rfl (ld2 _ _ _ _ ((hM.get 0 rfl).cell (1) _ (rfl))) ?_)
  (try simp only [Act.put, st_a, st_0, st_s])
  refine wl_give rfl (g_ileq 2 _ _ .i64 ((P).lg) (1099511627776) false rfl rfl (decide_eq_false c3) ?_)
  (try simp only [Act.put, st_a, st_0, st_s])
  refine wl_give rfl (g_pickt _ _ _ (.bool false) rfl rfl ?_)
  (try simp only [Act.put, st_a, st_0, st_s])
  refine wl_give rfl (g_move _ (.bool false) rfl ?_)
  (try simp only [Act.put, st_a, st_0, st_s])
  refine wl_skip rfl ?_
  (try simp only [Act.put, st_a, st_0, st_s])
  refine wl_skip rfl ?_
  (try simp only [Act.put, st_a, st_0, st_s])
  refine wl_skip rfl ?_
  (try simp only [Act.put, st_a, st_0, st_s])
  refine wl_give rfl (g_pickf _ _ _ (.bool false) rfl rfl ?_)
  (try simp only [Act.put, st_a, st_0, st_s])
  refine wl_give rfl (g_move _ (.bool false) rfl ?_)
  (try simp only [Act.put, st_a, st_0, st_s])
  refine wl_skip rfl ?_
  (try simp only [Act.put, st_a, st_0, st_s])
  refine wl_skip rfl ?_
  (try simp only [Act.put, st_a, st_0, st_s])
  refine wl_skip rfl ?_
  (try simp only [Act.put, st_a, st_0, st_s])
  refine wl_give rfl (g_pickf _ _ _ (.bool false) rfl rfl ?_)
  (try simp only [Act.put, st_a, st_0, st_s])
  refine wl_give rfl (g_move _ (.bool false) rfl ?_)
  (try simp only [Act.put, st_a, st_0, st_s])
  refine wl_skip rfl ?_
  (try simp only [Act.put, st_a, st_0, st_s])
  refine wl_skip rfl ?_
  (try simp only [Act.put, st_a, st_0, st_s])
  refine wl_skip rfl ?_
  (try simp only [Act.put, st_a, st_0, st_s])
  refine wl_give rfl (g_pickf _ _ _ (.bool false) rfl rfl ?_)
  (try simp only [Act.put, st_a, st_0, st_s])
  refine wl_give rfl (g_move _ (.bool false) rfl ?_)
  (try simp only [Act.put, st_a, st_0, st_s])
  refine wl_skip rfl ?_
  (try simp only [Act.put, st_a, st_0, st_s])
  refine wl_skip rfl ?_
  (try simp only [Act.put, st_a, st_0, st_s])
  refine wl_skip rfl ?_
  (try simp only [Act.put, st_a, st_0, st_s])
  refine wl_give rfl (g_pickf _ _ _ (.bool false) rfl rfl ?_)
  (try simp only [Act.put, st_a, st_0, st_s])
  refine wl_give rfl (g_assign _ (.bool false) rfl ?_)
  (try simp only [Act.put, st_a, st_0, st_s])
  refine wl_nil ?_
  refine hK3 _ _ ?_
  (try clear hK3 K3)
  refine wp_ret ?_
  go_ret
  exact ⟨rfl, hM.below⟩
set_option maxHeartbeats 4000000 in
theorem pmay_4 (P : Pl) (w : World) (c0 : -1152921504606846976 ≤ P.st) (c1 : P.st ≤ 1152921504606846976) (c2 : 1 ≤ P.lg) (c3 : P.lg ≤ 1099511627776) (c4 : ¬ 1 ≤ P.dl) : Calls Tryd.prog 11 #[.agg (plc P).toArray] w fun e w' => e = .returned (.bool false) ∧ Below w.heap.size w w' := by
  have hM := Ms.refl w
  go_enter Tryd.func11, Tryd.ntmps11
  refine wp_seq_k (fun K1 hK1 => ?_)
  refine wl_region ?_
  refine wl_give rfl (g_box 25 _ (plc (P)) rfl ?_)
  intro w2 t_ b_
  replace hM := hM.new t_ b_
  clear t_ b_
  (try simp only [Act.put, st_a, st_0, st_s])
  refine wl_give rfl (g_assign _ (.bool false) rfl ?_)
  (try simp only [Act.put, st_a, st_0, st_s])
  refine wl_nil ?_
  refine hK1 _ _ ?_
  (try clear hK1 K1)
  refine wp_seq_k (fun K3 hK3 => ?_)
  (try simp only [List.append_eq, List.cons_append, List.nil_append])
  refine wl_region ?_
  refine wl_give rfl (g_fa 25 _ (w.heap.size) (0) (0) 0 rfl (faPl0 _ _ _) ?_)
  (try simp only [Act.put, st_a, st_0, st_s])
  refine wl_give rfl (g_ld1 2 _ (w.heap.size) (0) _ rfl (ld2 _ _ _ _ ((hM.get 0 rfl).cell (0) _ (rfl))) ?_)
  (try simp only [Act.put, st_a, st_0, st_s])
  refine wl_give rfl (g_ileq 2 _ _ .i64 (-1152921504606846976) ((P).st) true rfl rfl (decide_eq_true c0) ?_)
  (try simp only [Act.put, st_a, st_0, st_s])
  refine wl_give rfl (g_move _ (.bool true) rfl ?_)
  (try simp only [Act.put, st_a, st_0, st_s])
  refine wl_give rfl (g_fa 25 _ (w.heap.size) (0) (0) 0 rfl (faPl0 _ _ _) ?_)
  (try simp only [Act.put, st_a, st_0, st_s])
  refine wl_give rfl (g_ld1 2 _ (w.heap.size) (0) _ rfl (ld2 _ _ _ _ ((hM.get 0 rfl).cell (0) _ (rfl))) ?_)
  (try simp only [Act.put, st_a, st_0, st_s])
  refine wl_give rfl (g_ileq 2 _ _ .i64 ((P).st) (1152921504606846976) true rfl rfl (decide_eq_true c1) ?_)
  (try simp only [Act.put, st_a, st_0, st_s])
  refine wl_give rfl (g_pickt _ _ _ (.bool true) rfl rfl ?_)
  (try simp only [Act.put, st_a, st_0, st_s])
  refine wl_give rfl (g_move _ (.bool true) rfl ?_)
  (try simp only [Act.put, st_a, st_0, st_s])
  refine wl_give rfl (g_fa 25 _ (w.heap.size) (0) (1) 1 rfl (faPl1 _ _ _) ?_)
  (try simp only [Act.put, st_a, st_0, st_s])
  refine wl_give rfl (g_ld1 2 _ (w.heap.size) (1) _ rfl (ld2 _ _ _ _ ((hM.get 0 rfl).cell (1) _ (rfl))) ?_)
  (try simp only [Act.put, st_a, st_0, st_s])
  refine wl_give rfl (g_ileq 2 _ _ .i64 (1) ((P).lg) true rfl rfl (decide_eq_true c2) ?_)
  (try simp only [Act.put, st_a, st_0, st_s])
  refine wl_give rfl (g_pickt _ _ _ (.bool true) rfl rfl ?_)
  (try simp only [Act.put, st_a, st_0, st_s])
  refine wl_give rfl (g_move _ (.bool true) rfl ?_)
  (try simp only [Act.put, st_a, st_0, st_s])
  refine wl_give rfl (g_fa 25 _ (w.heap.size) (0) (1) 1 rfl (faPl1 _ _ _) ?_)
  (try simp only [Act.put, st_a, st_0, st_s])
  refine wl_give rfl (g_ld1 2 _ (w.heap.size) (1) _ rfl (ld2 _ _ _ _ ((hM.get 0 rfl).cell (1) _ (rfl))) ?_)
  (try simp only [Act.put, st_a, st_0, st_s])
  refine wl_give rfl (g_ileq 2 _ _ .i64 ((P).lg) (1099511627776) true rfl rfl (decide_eq_true c3) ?_)
  (try simp only [Act.put, st_a, st_0, st_s])
  refine wl_give rfl (g_pickt _ _ _ (.bool true) rfl rfl ?_)
  (try simp only [Act.put, st_a, st_0, st_s])
  refine wl_give rfl (g_move _ (.bool true) rfl ?_)
  (try simp only [Act.put, st_a, st_0, st_s])
  refine wl_give rfl (g_fa 25 _ (w.heap.size) (0) (2) 2 rfl (faPl2 _ _ _) ?_)
  (try simp only [Act.put, st_a, st_0, st_s])
  refine wl_give rfl (g_ld1 3 _ (w.heap.size) (2) _ rfl (ld3 _ _ _ _ ((hM.get 0 rfl).cell (2) _ (rfl))) ?_)
  (try simp only [Act.put, st_a, st_0, st_s])
  refine wl_give rfl (g_ileq 3 _ _ .i64 (1) ((P).dl) false rfl rfl (decide_eq_false c4) ?_)
  (try simp only [Act.put, st_a, st_0, st_s])
  refine wl_give rfl (g_pickt _ _ _ (.bool false) rfl rfl ?_)
  (try simp only [Act.put, st_a, st_0, st_s])
  refine wl_give rfl (g_move _ (.bool false) rfl ?_)
  (try simp only [Act.put, st_a, st_0, st_s])
  refine wl_skip rfl ?_
  (try simp only [Act.put, st_a, st_0, st_s])
  refine wl_skip rfl ?_
  (try simp only [Act.put, st_a, st_0, st_s])
  refine wl_skip rfl ?_
  (try simp only [Act.put, st_a, st_0, st_s])
  refine wl_give rfl (g_pickf _ _ _ (.bool false) rfl rfl ?_)
  (try simp only [Act.put, st_a, st_0, st_s])
  refine wl_give rfl (g_move _ (.bool false) rfl ?_)
  (try simp only [Act.put, st_a, st_0, st_s])
  refine wl_skip rfl ?_
  (try simp only [Act.put, st_a, st_0, st_s])
  refine wl_skip rfl ?_
  (try simp only [Act.put, st_a, st_0, st_s])
  refine wl_skip rfl ?_
  (try simp only [Act.put, st_a, st_0, st_s])
  refine wl_give rfl (g_pickf _ _ _ (.bool false) rfl rfl ?_)
  (try simp only [Act.put, st_a, st_0, st_s])
  refine wl_give rfl (g_move _ (.bool false) rfl ?_)
  (try simp only [Act.put, st_a, st_0, st_s])
  refine wl_skip rfl ?_
  (try simp only [Act.put, st_a, st_0, st_s])
  refine wl_skip rfl ?_
  (try simp only [Act.put, st_a, st_0, st_s])
  refine wl_skip rfl ?_
  (try simp only [Act.put, st_a, st_0, st_s])
  refine wl_give rfl (g_pickf _ _ _ (.bool false) rfl rfl ?_)
  (try simp only [Act.put, st_a, st_0, st_s])
  refine wl_give rfl (g_assign _ (.bool false) rfl ?_)
  (try simp only [Act.put, st_a, st_0, st_s])
  refine wl_nil ?_
  refine hK3 _ _ ?_
  (try clear hK3 K3)
  refine wp_ret ?_
  go_ret
  exact ⟨rfl, hM.below⟩
set_option maxHeartbeats 4000000 in
theorem pmay_5 (P : Pl) (w : World) (c0 : -1152921504606846976 ≤ P.st) (c1 : P.st ≤ 1152921504606846976) (c2 : 1 ≤ P.lg) (c3 : P.lg ≤ 1099511627776) (c4 : 1 ≤ P.dl) (c5 : ¬ P.dl ≤ 16) : Calls Tryd.prog 11 #[.agg (plc P).toArray] w fun e w' => e = .returned (.bool false) ∧ Below w.heap.size w w' := by
  have hM := Ms.refl w
  go_enter Tryd.func11, Tryd.ntmps11
  refine wp_seq_k (fun K1 hK1 => ?_)
  refine wl_region ?_
  refine wl_give rfl (g_box 25 _ (plc (P)) rfl ?_)
  intro w2 t_ b_
  replace hM := hM.new t_ b_
  clear t_ b_
  (try simp only [Act.put, st_a, st_0, st_s])
  refine wl_give rfl (g_assign _ (.bool false) rfl ?_)
  (try simp only [Act.put, st_a, st_0, st_s])
  refine wl_nil ?_
  refine hK1 _ _ ?_
  (try clear hK1 K1)
  refine wp_seq_k (fun K3 hK3 => ?_)
  (try simp only [List.append_eq, List.cons_append, List.nil_append])
  refine wl_region ?_
  refine wl_give rfl (g_fa 25 _ (w.heap.size) (0) (0) 0 rfl (faPl0 _ _ _) ?_)
  (try simp only [Act.put, st_a, st_0, st_s])
  refine wl_give rfl (g_ld1 2 _ (w.heap.size) (0) _ rfl (ld2 _ _ _ _ ((hM.get 0 rfl).cell (0) _ (rfl))) ?_)
  (try simp only [Act.put, st_a, st_0, st_s])
  refine wl_give rfl (g_ileq 2 _ _ .i64 (-1152921504606846976) ((P).st) true rfl rfl (decide_eq_true c0) ?_)
  (try simp only [Act.put, st_a, st_0, st_s])
  refine wl_give rfl (g_move _ (.bool true) rfl ?_)
  (try simp only [Act.put, st_a, st_0, st_s])
  refine wl_give rfl (g_fa 25 _ (w.heap.size) (0) (0) 0 rfl (faPl0 _ _ _) ?_)
  (try simp only [Act.put, st_a, st_0, st_s])
  refine wl_give rfl (g_ld1 2 _ (w.heap.size) (0) _ rfl (ld2 _ _ _ _ ((hM.get 0 rfl).cell (0) _ (rfl))) ?_)
  (try simp only [Act.put, st_a, st_0, st_s])
  refine wl_give rfl (g_ileq 2 _ _ .i64 ((P).st) (1152921504606846976) true rfl rfl (decide_eq_true c1) ?_)
  (try simp only [Act.put, st_a, st_0, st_s])
  refine wl_give rfl (g_pickt _ _ _ (.bool true) rfl rfl ?_)
  (try simp only [Act.put, st_a, st_0, st_s])
  refine wl_give rfl (g_move _ (.bool true) rfl ?_)
  (try simp only [Act.put, st_a, st_0, st_s])
  refine wl_give rfl (g_fa 25 _ (w.heap.size) (0) (1) 1 rfl (faPl1 _ _ _) ?_)
  (try simp only [Act.put, st_a, st_0, st_s])
  refine wl_give rfl (g_ld1 2 _ (w.heap.size) (1) _ rfl (ld2 _ _ _ _ ((hM.get 0 rfl).cell (1) _ (rfl))) ?_)
  (try simp only [Act.put, st_a, st_0, st_s])
  refine wl_give rfl (g_ileq 2 _ _ .i64 (1) ((P).lg) true rfl rfl (decide_eq_true c2) ?_)
  (try simp only [Act.put, st_a, st_0, st_s])
  refine wl_give rfl (g_pickt _ _ _ (.bool true) rfl rfl ?_)
  (try simp only [Act.put, st_a, st_0, st_s])
  refine wl_give rfl (g_move _ (.bool true) rfl ?_)
  (try simp only [Act.put, st_a, st_0, st_s])
  refine wl_give rfl (g_fa 25 _ (w.heap.size) (0) (1) 1 rfl (faPl1 _ _ _) ?_)
  (try simp only [Act.put, st_a, st_0, st_s])
  refine wl_give rfl (g_ld1 2 _ (w.heap.size) (1) _ rfl (ld2 _ _ _ _ ((hM.get 0 rfl).cell (1) _ (rfl))) ?_)
  (try simp only [Act.put, st_a, st_0, st_s])
  refine wl_give rfl (g_ileq 2 _ _ .i64 ((P).lg) (1099511627776) true rfl rfl (decide_eq_true c3) ?_)
  (try simp only [Act.put, st_a, st_0, st_s])
  refine wl_give rfl (g_pickt _ _ _ (.bool true) rfl rfl ?_)
  (try simp only [Act.put, st_a, st_0, st_s])
  refine wl_give rfl (g_move _ (.bool true) rfl ?_)
  (try simp only [Act.put, st_a, st_0, st_s])
  refine wl_give rfl (g_fa 25 _ (w.heap.size) (0) (2) 2 rfl (faPl2 _ _ _) ?_)
  (try simp only [Act.put, st_a, st_0, st_s])
  refine wl_give rfl (g_ld1 3 _ (w.heap.size) (2) _ rfl (ld3 _ _ _ _ ((hM.get 0 rfl).cell (2) _ (rfl))) ?_)
  (try simp only [Act.put, st_a, st_0, st_s])
  refine wl_give rfl (g_ileq 3 _ _ .i64 (1) ((P).dl) true rfl rfl (decide_eq_true c4) ?_)
  (try simp only [Act.put, st_a, st_0, st_s])
  refine wl_give rfl (g_pickt _ _ _ (.bool true) rfl rfl ?_)
  (try simp only [Act.put, st_a, st_0, st_s])
  refine wl_give rfl (g_move _ (.bool true) rfl ?_)
  (try simp only [Act.put, st_a, st_0, st_s])
  refine wl_give rfl (g_fa 25 _ (w.heap.size) (0) (2) 2 rfl (faPl2 _ _ _) ?_)
  (try simp only [Act.put, st_a, st_0, st_s])
  refine wl_give rfl (g_ld1 3 _ (w.heap.size) (2) _ rfl (ld3 _ _ _ _ ((hM.get 0 rfl).cell (2) _ (rfl))) ?_)
  (try simp only [Act.put, st_a, st_0, st_s])
  refine wl_give rfl (g_ileq 3 _ _ .i64 ((P).dl) (16) false rfl rfl (decide_eq_false c5) ?_)
  (try simp only [Act.put, st_a, st_0, st_s])
  refine wl_give rfl (g_pickt _ _ _ (.bool false) rfl rfl ?_)
  (try simp only [Act.put, st_a, st_0, st_s])
  refine wl_give rfl (g_move _ (.bool false) rfl ?_)
  (try simp only [Act.put, st_a, st_0, st_s])
  refine wl_skip rfl ?_
  (try simp only [Act.put, st_a, st_0, st_s])
  refine wl_skip rfl ?_
  (try simp only [Act.put, st_a, st_0, st_s])
  refine wl_skip rfl ?_
  (try simp only [Act.put, st_a, st_0, st_s])
  refine wl_give rfl (g_pickf _ _ _ (.bool false) rfl rfl ?_)
  (try simp only [Act.put, st_a, st_0, st_s])
  refine wl_give rfl (g_move _ (.bool false) rfl ?_)
  (try simp only [Act.put, st_a, st_0, st_s])
  refine wl_skip rfl ?_
  (try simp only [Act.put, st_a, st_0, st_s])
  refine wl_skip rfl ?_
  (try simp only [Act.put, st_a, st_0, st_s])
  refine wl_skip rfl ?_
  (try simp only [Act.put, st_a, st_0, st_s])
  refine wl_give rfl (g_pickf _ _ _ (.bool false) rfl rfl ?_)
  (try simp only [Act.put, st_a, st_0, st_s])
  refine wl_give rfl (g_assign _ (.bool false) rfl ?_)
  (try simp only [Act.put, st_a, st_0, st_s])
  refine wl_nil ?_
  refine hK3 _ _ ?_
  (try clear hK3 K3)
  refine wp_ret ?_
  go_ret
  exact ⟨rfl, hM.below⟩
set_option maxHeartbeats 4000000 in
theorem pmay_6 (P : Pl) (w : World) (c0 : -1152921504606846976 ≤ P.st) (c1 : P.st ≤ 1152921504606846976) (c2 : 1 ≤ P.lg) (c3 : P.lg ≤ 1099511627776) (c4 : 1 ≤ P.dl) (c5 : P.dl ≤ 16) (c6 : ¬ 1 ≤ P.ct) : Calls Tryd.prog 11 #[.agg (plc P).toArray] w fun e w' => e = .returned (.bool false) ∧ Below w.heap.size w w' := by
  have hM := Ms.refl w
  go_enter Tryd.func11, Tryd.ntmps11
  refine wp_seq_k (fun K1 hK1 => ?_)
  refine wl_region ?_
  refine wl_give rfl (g_box 25 _ (plc (P)) rfl ?_)
  intro w2 t_ b_
  replace hM := hM.new t_ b_
  clear t_ b_
  (try simp only [Act.put, st_a, st_0, st_s])
  refine wl_give rfl (g_assign _ (.bool false) rfl ?_)
  (try simp only [Act.put, st_a, st_0, st_s])
  refine wl_nil ?_
  refine hK1 _ _ ?_
  (try clear hK1 K1)
  refine wp_seq_k (fun K3 hK3 => ?_)
  (try simp only [List.append_eq, List.cons_append, List.nil_append])
  refine wl_region ?_
  refine wl_give rfl (g_fa 25 _ (w.heap.size) (0) (0) 0 rfl (faPl0 _ _ _) ?_)
  (try simp only [Act.put, st_a, st_0, st_s])
  refine wl_give rfl (g_ld1 2 _ (w.heap.size) (0) _ rfl (ld2 _ _ _ _ ((hM.get 0 rfl).cell (0) _ (rfl))) ?_)
  (try simp only [Act.put, st_a, st_0, st_s])
  refine wl_give rfl (g_ileq 2 _ _ .i64 (-1152921504606846976) ((P).st) true rfl rfl (decide_eq_true c0) ?_)
  (try simp only [Act.put, st_a, st_0, st_s])
  refine wl_give rfl (g_move _ (.bool true) rfl ?_)
  (try simp only [Act.put, st_a, st_0, st_s])
  refine wl_give rfl (g_fa 25 _ (w.heap.size) (0) (0) 0 rfl (faPl0 _ _ _) ?_)
  (try simp only [Act.put, st_a, st_0, st_s])
  refine wl_give rfl (g_ld1 2 _ (w.heap.size) (0) _ rfl (ld2 _ _ _ _ ((hM.get 0 rfl).cell (0) _ (rfl))) ?_)
  (try simp only [Act.put, st_a, st_0, st_s])
  refine wl_give rfl (g_ileq 2 _ _ .i64 ((P).st) (1152921504606846976) true rfl rfl (decide_eq_true c1) ?_)
  (try simp only [Act.put, st_a, st_0, st_s])
  refine wl_give rfl (g_pickt _ _ _ (.bool true) rfl rfl ?_)
  (try simp only [Act.put, st_a, st_0, st_s])
  refine wl_give rfl (g_move _ (.bool true) rfl ?_)
  (try simp only [Act.put, st_a, st_0, st_s])
  refine wl_give rfl (g_fa 25 _ (w.heap.size) (0) (1) 1 rfl (faPl1 _ _ _) ?_)
  (try simp only [Act.put, st_a, st_0, st_s])
  refine wl_give rfl (g_ld1 2 _ (w.heap.size) (1) _ rfl (ld2 _ _ _ _ ((hM.get 0 rfl).cell (1) _ (rfl))) ?_)
  (try simp only [Act.put, st_a, st_0, st_s])
  refine wl_give rfl (g_ileq 2 _ _ .i64 (1) ((P).lg) true rfl rfl (decide_eq_true c2) ?_)
  (try simp only [Act.put, st_a, st_0, st_s])
  refine wl_give rfl (g_pickt _ _ _ (.bool true) rfl rfl ?_)
  (try simp only [Act.put, st_a, st_0, st_s])
  refine wl_give rfl (g_move _ (.bool true) rfl ?_)
  (try simp only [Act.put, st_a, st_0, st_s])
  refine wl_give rfl (g_fa 25 _ (w.heap.size) (0) (1) 1 rfl (faPl1 _ _ _) ?_)
  (try simp only [Act.put, st_a, st_0, st_s])
  refine wl_give rfl (g_ld1 2 _ (w.heap.size) (1) _ rfl (ld2 _ _ _ _ ((hM.get 0 rfl).cell (1) _ (rfl))) ?_)
  (try simp only [Act.put, st_a, st_0, st_s])
  refine wl_give rfl (g_ileq 2 _ _ .i64 ((P).lg) (1099511627776) true rfl rfl (decide_eq_true c3) ?_)
  (try simp only [Act.put, st_a, st_0, st_s])
  refine wl_give rfl (g_pickt _ _ _ (.bool true) rfl rfl ?_)
  (try simp only [Act.put, st_a, st_0, st_s])
  refine wl_give rfl (g_move _ (.bool true) rfl ?_)
  (try simp only [Act.put, st_a, st_0, st_s])
  refine wl_give rfl (g_fa 25 _ (w.heap.size) (0) (2) 2 rfl (faPl2 _ _ _) ?_)
  (try simp only [Act.put, st_a, st_0, st_s])
  refine wl_give rfl (g_ld1 3 _ (w.heap.size) (2) _ rfl (ld3 _ _ _ _ ((hM.get 0 rfl).cell (2) _ (rfl))) ?_)
  (try simp only [Act.put, st_a, st_0, st_s])
  refine wl_give rfl (g_ileq 3 _ _ .i64 (1) ((P).dl) true rfl rfl (decide_eq_true c4) ?_)
  (try simp only [Act.put, st_a, st_0, st_s])
  refine wl_give rfl (g_pickt _ _ _ (.bool true) rfl rfl ?_)
  (try simp only [Act.put, st_a, st_0, st_s])
  refine wl_give rfl (g_move _ (.bool true) rfl ?_)
  (try simp only [Act.put, st_a, st_0, st_s])
  refine wl_give rfl (g_fa 25 _ (w.heap.size) (0) (2) 2 rfl (faPl2 _ _ _) ?_)
  (try simp only [Act.put, st_a, st_0, st_s])
  refine wl_give rfl (g_ld1 3 _ (w.heap.size) (2) _ rfl (ld3 _ _ _ _ ((hM.get 0 rfl).cell (2) _ (rfl))) ?_)
  (try simp only [Act.put, st_a, st_0, st_s])
  refine wl_give rfl (g_ileq 3 _ _ .i64 ((P).dl) (16) true rfl rfl (decide_eq_true c5) ?_)
  (try simp only [Act.put, st_a, st_0, st_s])
  refine wl_give rfl (g_pickt _ _ _ (.bool true) rfl rfl ?_)
  (try simp only [Act.put, st_a, st_0, st_s])
  refine wl_give rfl (g_move _ (.bool true) rfl ?_)
  (try simp only [Act.put, st_a, st_0, st_s])
  refine wl_give rfl (g_fa 25 _ (w.heap.size) (0) (3) 3 rfl (faPl3 _ _ _) ?_)
  (try simp only [Act.put, st_a, st_0, st_s])
  refine wl_give rfl (g_ld1 3 _ (w.heap.size) (3) _ rfl (ld3 _ _ _ _ ((hM.get 0 rfl).cell (3) _ (rfl))) ?_)
  (try simp only [Act.put, st_a, st_0, st_s])
  refine wl_give rfl (g_ileq 3 _ _ .i64 (1) ((P).ct) false rfl rfl (decide_eq_false c6) ?_)
  (try simp only [Act.put, st_a, st_0, st_s])
  refine wl_give rfl (g_pickt _ _ _ (.bool false) rfl rfl ?_)
  (try simp only [Act.put, st_a, st_0, st_s])
  refine wl_give rfl (g_move _ (.bool false) rfl ?_)
  (try simp only [Act.put, st_a, st_0, st_s])
  refine wl_skip rfl ?_
  (try simp only [Act.put, st_a, st_0, st_s])
  refine wl_skip rfl ?_
  (try simp only [Act.put, st_a, st_0, st_s])
  refine wl_skip rfl ?_
  (try simp only [Act.put, st_a, st_0, st_s])
  refine wl_give rfl (g_pickf _ _ _ (.bool false) rfl rfl ?_)
  (try simp only [Act.put, st_a, st_0, st_s])
  refine wl_give rfl (g_assign _ (.bool false) rfl ?_)
  (try simp only [Act.put, st_a, st_0, st_s])
  refine wl_nil ?_
  refine hK3 _ _ ?_
  (try clear hK3 K3)
  refine wp_ret ?_
  go_ret
  exact ⟨rfl, hM.below⟩
set_option maxHeartbeats 4000000 in
theorem pmay_7 (P : Pl) (w : World) (c0 : -1152921504606846976 ≤ P.st) (c1 : P.st ≤ 1152921504606846976) (c2 : 1 ≤ P.lg) (c3 : P.lg ≤ 1099511627776) (c4 : 1 ≤ P.dl) (c5 : P.dl ≤ 16) (c6 : 1 ≤ P.ct) (c7 : ¬ P.ct ≤ 1024) : Calls Tryd.prog 11 #[.agg (plc P).toArray] w fun e w' => e = .returned (.bool false) ∧ Below w.heap.size w w' := by
  have hM := Ms.refl w
  go_enter Tryd.func11, Tryd.ntmps11
  refine wp_seq_k (fun K1 hK1 => ?_)
  refine wl_region ?_
  refine wl_give rfl (g_box 25 _ (plc (P)) rfl ?_)
  intro w2 t_ b_
  replace hM := hM.new t_ b_
  clear t_ b_
  (try simp only [Act.put, st_a, st_0, st_s])
  refine wl_give rfl (g_assign _ (.bool false) rfl ?_)
  (try simp only [Act.put, st_a, st_0, st_s])
  refine wl_nil ?_
  refine hK1 _ _ ?_
  (try clear hK1 K1)
  refine wp_seq_k (fun K3 hK3 => ?_)
  (try simp only [List.append_eq, List.cons_append, List.nil_append])
  refine wl_region ?_
  refine wl_give rfl (g_fa 25 _ (w.heap.size) (0) (0) 0 rfl (faPl0 _ _ _) ?_)
  (try simp only [Act.put, st_a, st_0, st_s])
  refine wl_give rfl (g_ld1 2 _ (w.heap.size) (0) _ rfl (ld2 _ _ _ _ ((hM.get 0 rfl).cell (0) _ (rfl))) ?_)
  (try simp only [Act.put, st_a, st_0, st_s])
  refine wl_give rfl (g_ileq 2 _ _ .i64 (-1152921504606846976) ((P).st) true rfl rfl (decide_eq_true c0) ?_)
  (try simp only [Act.put, st_a, st_0, st_s])
  refine wl_give rfl (g_move _ (.bool true) rfl ?_)
  (try simp only [Act.put, st_a, st_0, st_s])
  refine wl_give rfl (g_fa 25 _ (w.heap.size) (0) (0) 0 rfl (faPl0 _ _ _) ?_)
  (try simp only [Act.put, st_a, st_0, st_s])
  refine wl_give rfl (g_ld1 2 _ (w.heap.size) (0) _ rfl (ld2 _ _ _ _ ((hM.get 0 rfl).cell (0) _ (rfl))) ?_)
  (try simp only [Act.put, st_a, st_0, st_s])
  refine wl_give rfl (g_ileq 2 _ _ .i64 ((P).st) (1152921504606846976) true rfl rfl (decide_eq_true c1) ?_)
  (try simp only [Act.put, st_a, st_0, st_s])
  refine wl_give rfl (g_pickt _ _ _ (.bool true) rfl rfl ?_)
  (try simp only [Act.put, st_a, st_0, st_s])
  refine wl_give rfl (g_move _ (.bool true) rfl ?_)
  (try simp only [Act.put, st_a, st_0, st_s])
  refine wl_give rfl (g_fa 25 _ (w.heap.size) (0) (1) 1 rfl (faPl1 _ _ _) ?_)
  (try simp only [Act.put, st_a, st_0, st_s])
  refine wl_give rfl (g_ld1 2 _ (w.heap.size) (1) _ rfl (ld2 _ _ _ _ ((hM.get 0 rfl).cell (1) _ (rfl))) ?_)
  (try simp only [Act.put, st_a, st_0, st_s])
  refine wl_give rfl (g_ileq 2 _ _ .i64 (1) ((P).lg) true rfl rfl (decide_eq_true c2) ?_)
  (try simp only [Act.put, st_a, st_0, st_s])
  refine wl_give rfl (g_pickt _ _ _ (.bool true) rfl rfl ?_)
  (try simp only [Act.put, st_a, st_0, st_s])
  refine wl_give rfl (g_move _ (.bool true) rfl ?_)
  (try simp only [Act.put, st_a, st_0, st_s])
  refine wl_give rfl (g_fa 25 _ (w.heap.size) (0) (1) 1 rfl (faPl1 _ _ _) ?_)
  (try simp only [Act.put, st_a, st_0, st_s])
  refine wl_give rfl (g_ld1 2 _ (w.heap.size) (1) _ rfl (ld2 _ _ _ _ ((hM.get 0 rfl).cell (1) _ (rfl))) ?_)
  (try simp only [Act.put, st_a, st_0, st_s])
  refine wl_give rfl (g_ileq 2 _ _ .i64 ((P).lg) (1099511627776) true rfl rfl (decide_eq_true c3) ?_)
  (try simp only [Act.put, st_a, st_0, st_s])
  refine wl_give rfl (g_pickt _ _ _ (.bool true) rfl rfl ?_)
  (try simp only [Act.put, st_a, st_0, st_s])
  refine wl_give rfl (g_move _ (.bool true) rfl ?_)
  (try simp only [Act.put, st_a, st_0, st_s])
  refine wl_give rfl (g_fa 25 _ (w.heap.size) (0) (2) 2 rfl (faPl2 _ _ _) ?_)
  (try simp only [Act.put, st_a, st_0, st_s])
  refine wl_give rfl (g_ld1 3 _ (w.heap.size) (2) _ rfl (ld3 _ _ _ _ ((hM.get 0 rfl).cell (2) _ (rfl))) ?_)
  (try simp only [Act.put, st_a, st_0, st_s])
  refine wl_give rfl (g_ileq 3 _ _ .i64 (1) ((P).dl) true rfl rfl (decide_eq_true c4) ?_)
  (try simp only [Act.put, st_a, st_0, st_s])
  refine wl_give rfl (g_pickt _ _ _ (.bool true) rfl rfl ?_)
  (try simp only [Act.put, st_a, st_0, st_s])
  refine wl_give rfl (g_move _ (.bool true) rfl ?_)
  (try simp only [Act.put, st_a, st_0, st_s])
  refine wl_give rfl (g_fa 25 _ (w.heap.size) (0) (2) 2 rfl (faPl2 _ _ _) ?_)
  (try simp only [Act.put, st_a, st_0, st_s])
  refine wl_give rfl (g_ld1 3 _ (w.heap.size) (2) _ rfl (ld3 _ _ _ _ ((hM.get 0 rfl).cell (2) _ (rfl))) ?_)
  (try simp only [Act.put, st_a, st_0, st_s])
  refine wl_give rfl (g_ileq 3 _ _ .i64 ((P).dl) (16) true rfl rfl (decide_eq_true c5) ?_)
  (try simp only [Act.put, st_a, st_0, st_s])
  refine wl_give rfl (g_pickt _ _ _ (.bool true) rfl rfl ?_)
  (try simp only [Act.put, st_a, st_0, st_s])
  refine wl_give rfl (g_move _ (.bool true) rfl ?_)
  (try simp only [Act.put, st_a, st_0, st_s])
  refine wl_give rfl (g_fa 25 _ (w.heap.size) (0) (3) 3 rfl (faPl3 _ _ _) ?_)
  (try simp only [Act.put, st_a, st_0, st_s])
  refine wl_give rfl (g_ld1 3 _ (w.heap.size) (3) _ rfl (ld3 _ _ _ _ ((hM.get 0 rfl).cell (3) _ (rfl))) ?_)
  (try simp only [Act.put, st_a, st_0, st_s])
  refine wl_give rfl (g_ileq 3 _ _ .i64 (1) ((P).ct) true rfl rfl (decide_eq_true c6) ?_)
  (try simp only [Act.put, st_a, st_0, st_s])
  refine wl_give rfl (g_pickt _ _ _ (.bool true) rfl rfl ?_)
  (try simp only [Act.put, st_a, st_0, st_s])
  refine wl_give rfl (g_move _ (.bool true) rfl ?_)
  (try simp only [Act.put, st_a, st_0, st_s])
  refine wl_give rfl (g_fa 25 _ (w.heap.size) (0) (3) 3 rfl (faPl3 _ _ _) ?_)
  (try simp only [Act.put, st_a, st_0, st_s])
  refine wl_give rfl (g_ld1 3 _ (w.heap.size) (3) _ rfl (ld3 _ _ _ _ ((hM.get 0 rfl).cell (3) _ (rfl))) ?_)
  (try simp only [Act.put, st_a, st_0, st_s])
  refine wl_give rfl (g_ileq 3 _ _ .i64 ((P).ct) (1024) false rfl rfl (decide_eq_false c7) ?_)
  (try simp only [Act.put, st_a, st_0, st_s])
  refine wl_give rfl (g_pickt _ _ _ (.bool false) rfl rfl ?_)
  (try simp only [Act.put, st_a, st_0, st_s])
  refine wl_give rfl (g_assign _ (.bool false) rfl ?_)
  (try simp only [Act.put, st_a, st_0, st_s])
  refine wl_nil ?_
  refine hK3 _ _ ?_
  (try clear hK3 K3)
  refine wp_ret ?_
  go_ret
  exact ⟨rfl, hM.below⟩
set_option maxHeartbeats 4000000 in
theorem pmay_8 (P : Pl) (w : World) (c0 : -1152921504606846976 ≤ P.st) (c1 : P.st ≤ 1152921504606846976) (c2 : 1 ≤ P.lg) (c3 : P.lg ≤ 1099511627776) (c4 : 1 ≤ P.dl) (c5 : P.dl ≤ 16) (c6 : 1 ≤ P.ct) (c7 : P.ct ≤ 1024) : Calls Tryd.prog 11 #[.agg (plc P).toArray] w fun e w' => e = .returned (.bool true) ∧ Below w.heap.size w w' := by
  have hM := Ms.refl w
  go_enter Tryd.func11, Tryd.ntmps11
  refine wp_seq_k (fun K1 hK1 => ?_)
  refine wl_region ?_
  refine wl_give rfl (g_box 25 _ (plc (P)) rfl ?_)
  intro w2 t_ b_
  replace hM := hM.new t_ b_
  clear t_ b_
  (try simp only [Act.put, st_a, st_0, st_s])
  refine wl_give rfl (g_assign _ (.bool false) rfl ?_)
  (try simp only [Act.put, st_a, st_0, st_s])
  refine wl_nil ?_
  refine hK1 _ _ ?_
  (try clear hK1 K1)
  refine wp_seq_k (fun K3 hK3 => ?_)
  (try simp only [List.append_eq, List.cons_append, List.nil_append])
  refine wl_region ?_
  refine wl_give rfl (g_fa 25 _ (w.heap.size) (0) (0) 0 rfl (faPl0 _ _ _) ?_)
  (try simp only [Act.put, st_a, st_0, st_s])
  refine wl_give rfl (g_ld1 2 _ (w.heap.size) (0) _ rfl (ld2 _ _ _ _ ((hM.get 0 rfl).cell (0) _ (rfl))) ?_)
  (try simp only [Act.put, st_a, st_0, st_s])
  refine wl_give rfl (g_ileq 2 _ _ .i64 (-1152921504606846976) ((P).st) true rfl rfl (decide_eq_true c0) ?_)
  (try simp only [Act.put, st_a, st_0, st_s])
  refine wl_give rfl (g_move _ (.bool true) rfl ?_)
  (try simp only [Act.put, st_a, st_0, st_s])
  refine wl_give rfl (g_fa 25 _ (w.heap.size) (0) (0) 0 rfl (faPl0 _ _ _) ?_)
  (try simp only [Act.put, st_a, st_0, st_s])
  refine wl_give rfl (g_ld1 2 _ (w.heap.size) (0) _ rfl (ld2 _ _ _ _ ((hM.get 0 rfl).cell (0) _ (rfl))) ?_)
  (try simp only [Act.put, st_a, st_0, st_s])
  refine wl_give rfl (g_ileq 2 _ _ .i64 ((P).st) (1152921504606846976) true rfl rfl (decide_eq_true c1) ?_)
  (try simp only [Act.put, st_a, st_0, st_s])
  refine wl_give rfl (g_pickt _ _ _ (.bool true) rfl rfl ?_)
  (try simp only [Act.put, st_a, st_0, st_s])
  refine wl_give rfl (g_move _ (.bool true) rfl ?_)
  (try simp only [Act.put, st_a, st_0, st_s])
  refine wl_give rfl (g_fa 25 _ (w.heap.size) (0) (1) 1 rfl (faPl1 _ _ _) ?_)
  (try simp only [Act.put, st_a, st_0, st_s])
  refine wl_give rfl (g_ld1 2 _ (w.heap.size) (1) _ rfl (ld2 _ _ _ _ ((hM.get 0 rfl).cell (1) _ (rfl))) ?_)
  (try simp only [Act.put, st_a, st_0, st_s])
  refine wl_give rfl (g_ileq 2 _ _ .i64 (1) ((P).lg) true rfl rfl (decide_eq_true c2) ?_)
  (try simp only [Act.put, st_a, st_0, st_s])
  refine wl_give rfl (g_pickt _ _ _ (.bool true) rfl rfl ?_)
  (try simp only [Act.put, st_a, st_0, st_s])
  refine wl_give rfl (g_move _ (.bool true) rfl ?_)
  (try simp only [Act.put, st_a, st_0, st_s])
  refine wl_give rfl (g_fa 25 _ (w.heap.size) (0) (1) 1 rfl (faPl1 _ _ _) ?_)
  (try simp only [Act.put, st_a, st_0, st_s])
  refine wl_give rfl (g_ld1 2 _ (w.heap.size) (1) _ rfl (ld2 _ _ _ _ ((hM.get 0 rfl).cell (1) _ (rfl))) ?_)
  (try simp only [Act.put, st_a, st_0, st_s])
  refine wl_give rfl (g_ileq 2 _ _ .i64 ((P).lg) (1099511627776) true rfl rfl (decide_eq_true c3) ?_)
  (try simp only [Act.put, st_a, st_0, st_s])
  refine wl_give rfl (g_pickt _ _ _ (.bool true) rfl rfl ?_)
  (try simp only [Act.put, st_a, st_0, st_s])
  refine wl_give rfl (g_move _ (.bool true) rfl ?_)
  (try simp only [Act.put, st_a, st_0, st_s])
  refine wl_give rfl (g_fa 25 _ (w.heap.size) (0) (2) 2 rfl (faPl2 _ _ _) ?_)
  (try simp only [Act.put, st_a, st_0, st_s])
  refine wl_give rfl (g_ld1 3 _ (w.heap.size) (2) _ rfl (ld3 _ _ _ _ ((hM.get 0 rfl).cell (2) _ (rfl))) ?_)
  (try simp only [Act.put, st_a, st_0, st_s])
  refine wl_give rfl (g_ileq 3 _ _ .i64 (1) ((P).dl) true rfl rfl (decide_eq_true c4) ?_)
  (try simp only [Act.put, st_a, st_0, st_s])
  refine wl_give rfl (g_pickt _ _ _ (.bool true) rfl rfl ?_)
  (try simp only [Act.put, st_a, st_0, st_s])
  refine wl_give rfl (g_move _ (.bool true) rfl ?_)
  (try simp only [Act.put, st_a, st_0, st_s])
  refine wl_give rfl (g_fa 25 _ (w.heap.size) (0) (2) 2 rfl (faPl2 _ _ _) ?_)
  (try simp only [Act.put, st_a, st_0, st_s])
  refine wl_give rfl (g_ld1 3 _ (w.heap.size) (2) _ rfl (ld3 _ _ _ _ ((hM.get 0 rfl).cell (2) _ (rfl))) ?_)
  (try simp only [Act.put, st_a, st_0, st_s])
  refine wl_give rfl (g_ileq 3 _ _ .i64 ((P).dl) (16) true rfl rfl (decide_eq_true c5) ?_)
  (try simp only [Act.put, st_a, st_0, st_s])
  refine wl_give rfl (g_pickt _ _ _ (.bool true) rfl rfl ?_)
  (try simp only [Act.put, st_a, st_0, st_s])
  refine wl_give rfl (g_move _ (.bool true) rfl ?_)
  (try simp only [Act.put, st_a, st_0, st_s])
  refine wl_give rfl (g_fa 25 _ (w.heap.size) (0) (3) 3 rfl (faPl3 _ _ _) ?_)
  (try simp only [Act.put, st_a, st_0, st_s])
  refine wl_give rfl (g_ld1 3 _ (w.heap.size) (3) _ rfl (ld3 _ _ _ _ ((hM.get 0 rfl).cell (3) _ (rfl))) ?_)
  (try simp only [Act.put, st_a, st_0, st_s])
  refine wl_give rfl (g_ileq 3 _ _ .i64 (1) ((P).ct) true rfl rfl (decide_eq_true c6) ?_)
  (try simp only [Act.put, st_a, st_0, st_s])
  refine wl_give rfl (g_pickt _ _ _ (.bool true) rfl rfl ?_)
  (try simp only [Act.put, st_a, st_0, st_s])
  refine wl_give rfl (g_move _ (.bool true) rfl ?_)
  (try simp only [Act.put, st_a, st_0, st_s])
  refine wl_give rfl (g_fa 25 _ (w.heap.size) (0) (3) 3 rfl (faPl3 _ _ _) ?_)
  (try simp only [Act.put, st_a, st_0, st_s])
  refine wl_give rfl (g_ld1 3 _ (w.heap.size) (3) _ rfl (ld3 _ _ _ _ ((hM.get 0 rfl).cell (3) _ (rfl))) ?_)
  (try simp only [Act.put, st_a, st_0, st_s])
  refine wl_give rfl (g_ileq 3 _ _ .i64 ((P).ct) (1024) true rfl rfl (decide_eq_true c7) ?_)
  (try simp only [Act.put, st_a, st_0, st_s])
  refine wl_give rfl (g_pickt _ _ _ (.bool true) rfl rfl ?_)
  (try simp only [Act.put, st_a, st_0, st_s])
  refine wl_give rfl (g_assign _ (.bool true) rfl ?_)
  (try simp only [Act.put, st_a, st_0, st_s])
  refine wl_nil ?_
  refine hK3 _ _ ?_
  (try clear hK3 K3)
  refine wp_ret ?_
  go_ret
  exact ⟨rfl, hM.below⟩
theorem pmay_any (P : Pl) (w : World) : Calls Tryd.prog 11 #[.agg (plc P).toArray] w fun e w' => e = .returned (.bool (okP P)) ∧ Below w.heap.size w w' := by
  by_cases c0 : -1152921504606846976 ≤ P.st
  case neg =>
    rw [show okP P = false from decide_eq_false (fun h => c0 (by have h : POk P := h; omega))]
    exact pmay_0 P w c0
  by_cases c1 : P.st ≤ 1152921504606846976
  case neg =>
    rw [show okP P = false from decide_eq_false (fun h => c1 (by have h : POk P := h; omega))]
    exact pmay_1 P w c0 c1
  by_cases c2 : 1 ≤ P.lg
  case neg =>
    rw [show okP P = false from decide_eq_false (fun h => c2 (by have h : POk P := h; omega))]
    exact pmay_2 P w c0 c1 c2
  by_cases c3 : P.lg ≤ 1099511627776
  case neg =>
    rw [show okP P = false from decide_eq_false (fun h => c3 (by have h : POk P := h; omega))]
    exact pmay_3 P w c0 c1 c2 c3
  by_cases c4 : 1 ≤ P.dl
  case neg =>
    rw [show okP P = false from decide_eq_false (fun h => c4 (by have h : POk P := h; omega))]
    exact pmay_4 P w c0 c1 c2 c3 c4
  by_cases c5 : P.dl ≤ 16
  case neg =>
    rw [show okP P = false from decide_eq_false (fun h => c5 (by have h : POk P := h; omega))]
    exact pmay_5 P w c0 c1 c2 c3 c4 c5
  by_cases c6 : 1 ≤ P.ct
  case neg =>
    rw [show okP P = false from decide_eq_false (fun h => c6 (by have h : POk P := h; omega))]
    exact pmay_6 P w c0 c1 c2 c3 c4 c5 c6
  by_cases c7 : P.ct ≤ 1024
  case neg =>
    rw [show okP P = false from decide_eq_false (fun h => c7 (by have h : POk P := h; omega))]
    exact pmay_7 P w c0 c1 c2 c3 c4 c5 c6 c7
  rw [show okP P = true from decide_eq_true ⟨c0, c1, c2, c3, c4, c5, c6, c7⟩]
  exact pmay_8 P w c0 c1 c2 c3 c4 c5 c6 c7
set_option maxHeartbeats 4000000 in
theorem asker_any {w0 w : World} {R : List HP} (P : Pl) (n : Int) (hM : Ms w0 w R) : Calls Tryd.prog 45 #[.agg (plc P).toArray, .int .i64 n] w fun e w' => ∃ b p q, e = .returned (.func (.func 60) #[] #[.pointer (some ⟨b, 0, none⟩), .pointer (some ⟨p, 0, none⟩), .pointer (some ⟨q, 0, none⟩)]) ∧ Ms w0 w' (blk b [.bool (okP P)] 4 :: blk p (plc P) 25 :: blk q [.int .i64 n] 3 :: R) := by
  go_enter Tryd.func45, Tryd.ntmps45
  refine wp_seq_k (fun K1 hK1 => ?_)
  refine wl_region ?_
  refine wl_give rfl (g_box 25 _ (plc (P)) rfl ?_)
  intro w2 t_ b_
  replace hM := hM.new t_ b_
  clear t_ b_
  (try simp only [Act.put, st_a, st_0, st_s])
  refine wl_give rfl (g_box1 3 _ (.int .i64 (n)) rfl rfl ?_)
  intro w3 t_ b_
  replace hM := hM.new t_ b_
  clear t_ b_
  (try simp only [Act.put, st_a, st_0, st_s])
  refine wl_give rfl (g_assign _ (.nilFunc) rfl ?_)
  (try simp only [Act.put, st_a, st_0, st_s])
  refine wl_nil ?_
  refine hK1 _ _ ?_
  (try clear hK1 K1)
  refine wp_seq_k (fun K4 hK4 => ?_)
  refine wl_region ?_
  refine wl_give rfl (g_load_all 25 _ (w.heap.size) (plc (P)) 25 _ rfl (hM.get 1 rfl) Tryd.underlying25 rfl (szPl _) ?_)
  (try simp only [Act.put, st_a, st_0, st_s])
  refine wl_give rfl (g_call 11 _ _ [.agg (plc (P)).toArray] (kf11 _ _) rfl ((pmay_any P w3).mono ?_))
  rintro e w5 ⟨rfl, t_⟩
  refine ⟨_, rfl, ?_⟩
  replace hM := hM.call t_
  clear t_
  (try simp only [Act.put, st_a, st_0, st_s])
  refine wl_give rfl (g_alloc1 4 (.bool false) zeroB rfl ?_)
  intro w6 t_ b_
  replace hM := hM.new t_ b_
  clear t_ b_
  (try simp only [Act.put, st_a, st_0, st_s])
  refine wl_give rfl (g_st1 4 _ _ (w5.heap.size) (0) (.bool (okP P)) _ 4 rfl rfl (hM.get 0 rfl) (show 0 < 1 by decide) rfl rfl size4 ?_)
  intro w7 t_ b_
  replace hM : Ms w0 w7 (blk (w5.heap.size) ([.bool (okP P)]) 4 :: blk (w2.heap.size) ([.int .i64 (n)]) 3 :: blk (w.heap.size) (plc (P)) 25 :: R) := hM.put 0 rfl t_ b_
  clear t_ b_
  (try simp only [Act.put, st_a, st_0, st_s])
  refine wl_nil ?_
  refine hK4 _ _ ?_
  (try clear hK4 K4)
  refine wp_seq_k (fun K8 hK8 => ?_)
  refine wl_region ?_
  refine wl_give rfl (g_mkF 60 _ [.pointer (some ⟨w5.heap.size, 0, none⟩), .pointer (some ⟨w.heap.size, 0, none⟩), .pointer (some ⟨w2.heap.size, 0, none⟩)] rfl ?_)
  (try simp only [Act.put, st_a, st_0, st_s])
  refine wl_give rfl (g_assign _ (.func (.func 60) #[] #[.pointer (some ⟨w5.heap.size, 0, none⟩), .pointer (some ⟨w.heap.size, 0, none⟩), .pointer (some ⟨w2.heap.size, 0, none⟩)]) rfl ?_)
  (try simp only [Act.put, st_a, st_0, st_s])
  refine wl_nil ?_
  refine hK8 _ _ ?_
  (try clear hK8 K8)
  refine wp_ret ?_
  go_ret
  exact ⟨_, _, _, rfl, ((hM.up 2 rfl).up 1 rfl)⟩
/-- Parts kept: what is below the world's end is as it was. -/
theorem bel0 (w : World) : Below w.heap.size w w := Below.refl _ _
set_option maxHeartbeats 4000000 in
theorem ask_no {w0 w : World} {R : List HP} {b p q : Nat} (P : Pl) (n i : Int) (hM : Ms w0 w (blk b [.bool (okP P)] 4 :: blk p (plc P) 25 :: blk q [.int .i64 n] 3 :: R)) (hk : okP P = false) : Calls Tryd.prog 60 #[.int .i64 i, .pointer (some ⟨b, 0, none⟩), .pointer (some ⟨p, 0, none⟩), .pointer (some ⟨q, 0, none⟩)] w fun e w' => e = .returned (.bool false) ∧ Below w.heap.size w w' := by
  rw [hk] at hM
  have hBe := Below.refl w.heap.size w
  go_enter Tryd.func60, Tryd.ntmps60
  refine wp_seq_k (fun K1 hK1 => ?_)
  refine wl_region ?_
  refine wl_give rfl (g_assign _ (.bool false) rfl ?_)
  (try simp only [Act.put, st_a, st_0, st_s])
  refine wl_nil ?_
  refine hK1 _ _ ?_
  (try clear hK1 K1)
  refine wp_seq_k (fun K2 hK2 => ?_)
  refine wl_region ?_
  refine wl_give rfl (g_ld1 4 _ (b) (0) _ rfl (ld4 _ _ _ _ ((hM.get 0 rfl).cell (0) _ (rfl))) ?_)
  (try simp only [Act.put, st_a, st_0, st_s])
  refine wl_give rfl (g_move _ (.bool false) rfl ?_)
  (try simp only [Act.put, st_a, st_0, st_s])
  refine wl_skip rfl ?_
  (try simp only [Act.put, st_a, st_0, st_s])
  refine wl_skip rfl ?_
  (try simp only [Act.put, st_a, st_0, st_s])
  refine wl_give rfl (g_pickf _ _ _ (.bool false) rfl rfl ?_)
  (try simp only [Act.put, st_a, st_0, st_s])
  refine wl_give rfl (g_move _ (.bool false) rfl ?_)
  (try simp only [Act.put, st_a, st_0, st_s])
  refine wl_skip rfl ?_
  (try simp only [Act.put, st_a, st_0, st_s])
  refine wl_skip rfl ?_
  (try simp only [Act.put, st_a, st_0, st_s])
  refine wl_skip rfl ?_
  (try simp only [Act.put, st_a, st_0, st_s])
  refine wl_skip rfl ?_
  (try simp only [Act.put, st_a, st_0, st_s])
  refine wl_skip rfl ?_
  (try simp only [Act.put, st_a, st_0, st_s])
  refine wl_skip rfl ?_
  (try simp only [Act.put, st_a, st_0, st_s])
  refine wl_give rfl (g_pickf _ _ _ (.bool false) rfl rfl ?_)
  (try simp only [Act.put, st_a, st_0, st_s])
  refine wl_give rfl (g_assign _ (.bool false) rfl ?_)
  (try simp only [Act.put, st_a, st_0, st_s])
  refine wl_nil ?_
  refine hK2 _ _ ?_
  (try clear hK2 K2)
  refine wp_ret ?_
  go_ret
  exact ⟨rfl, hBe⟩
set_option maxHeartbeats 4000000 in
theorem ask_lo {w0 w : World} {R : List HP} {b p q : Nat} (P : Pl) (n i : Int) (hM : Ms w0 w (blk b [.bool (okP P)] 4 :: blk p (plc P) 25 :: blk q [.int .i64 n] 3 :: R)) (hk : okP P = true) (h1 : ¬ 1 ≤ i) : Calls Tryd.prog 60 #[.int .i64 i, .pointer (some ⟨b, 0, none⟩), .pointer (some ⟨p, 0, none⟩), .pointer (some ⟨q, 0, none⟩)] w fun e w' => e = .returned (.bool false) ∧ Below w.heap.size w w' := by
  rw [hk] at hM
  have hBe := Below.refl w.heap.size w
  go_enter Tryd.func60, Tryd.ntmps60
  refine wp_seq_k (fun K1 hK1 => ?_)
  refine wl_region ?_
  refine wl_give rfl (g_assign _ (.bool false) rfl ?_)
  (try simp only [Act.put, st_a, st_0, st_s])
  refine wl_nil ?_
  refine hK1 _ _ ?_
  (try clear hK1 K1)
  refine wp_seq_k (fun K2 hK2 => ?_)
  refine wl_region ?_
  refine wl_give rfl (g_ld1 4 _ (b) (0) _ rfl (ld4 _ _ _ _ ((hM.get 0 rfl).cell (0) _ (rfl))) ?_)
  (try simp only [Act.put, st_a, st_0, st_s])
  refine wl_give rfl (g_move _ (.bool true) rfl ?_)
  (try simp only [Act.put, st_a, st_0, st_s])
  refine wl_give rfl (g_move _ (.int .i64 (i)) rfl ?_)
  (try simp only [Act.put, st_a, st_0, st_s])
  refine wl_give rfl (g_ileq 3 _ _ .i64 (1) (i) false rfl rfl (decide_eq_false h1) ?_)
  (try simp only [Act.put, st_a, st_0, st_s])
  refine wl_give rfl (g_pickt _ _ _ (.bool false) rfl rfl ?_)
  (try simp only [Act.put, st_a, st_0, st_s])
  refine wl_give rfl (g_move _ (.bool false) rfl ?_)
  (try simp only [Act.put, st_a, st_0, st_s])
  refine wl_skip rfl ?_
  (try simp only [Act.put, st_a, st_0, st_s])
  refine wl_skip rfl ?_
  (try simp only [Act.put, st_a, st_0, st_s])
  refine wl_skip rfl ?_
  (try simp only [Act.put, st_a, st_0, st_s])
  refine wl_skip rfl ?_
  (try simp only [Act.put, st_a, st_0, st_s])
  refine wl_skip rfl ?_
  (try simp only [Act.put, st_a, st_0, st_s])
  refine wl_skip rfl ?_
  (try simp only [Act.put, st_a, st_0, st_s])
  refine wl_give rfl (g_pickf _ _ _ (.bool false) rfl rfl ?_)
  (try simp only [Act.put, st_a, st_0, st_s])
  refine wl_give rfl (g_assign _ (.bool false) rfl ?_)
  (try simp only [Act.put, st_a, st_0, st_s])
  refine wl_nil ?_
  refine hK2 _ _ ?_
  (try clear hK2 K2)
  refine wp_ret ?_
  go_ret
  exact ⟨rfl, hBe⟩
set_option maxHeartbeats 4000000 in
theorem ask_hi {w0 w : World} {R : List HP} {b p q : Nat} (P : Pl) (n i : Int) (hM : Ms w0 w (blk b [.bool (okP P)] 4 :: blk p (plc P) 25 :: blk q [.int .i64 n] 3 :: R)) (hk : okP P = true) (h1 : 1 ≤ i) (hs : Shut (IntKind.i64.wrap (P.ct + n) = P.ct + n)) (h2 : ¬ i ≤ P.ct + n) : Calls Tryd.prog 60 #[.int .i64 i, .pointer (some ⟨b, 0, none⟩), .pointer (some ⟨p, 0, none⟩), .pointer (some ⟨q, 0, none⟩)] w fun e w' => e = .returned (.bool false) ∧ Below w.heap.size w w' := by
  rw [hk] at hM
  have hBe := Below.refl w.heap.size w
  go_enter Tryd.func60, Tryd.ntmps60
  refine wp_seq_k (fun K1 hK1 => ?_)
  refine wl_region ?_
  refine wl_give rfl (g_assign _ (.bool false) rfl ?_)
  (try simp only [Act.put, st_a, st_0, st_s])
  refine wl_nil ?_
  refine hK1 _ _ ?_
  (try clear hK1 K1)
  refine wp_seq_k (fun K2 hK2 => ?_)
  refine wl_region ?_
  refine wl_give rfl (g_ld1 4 _ (b) (0) _ rfl (ld4 _ _ _ _ ((hM.get 0 rfl).cell (0) _ (rfl))) ?_)
  (try simp only [Act.put, st_a, st_0, st_s])
  refine wl_give rfl (g_move _ (.bool true) rfl ?_)
  (try simp only [Act.put, st_a, st_0, st_s])
  refine wl_give rfl (g_move _ (.int .i64 (i)) rfl ?_)
  (try simp only [Act.put, st_a, st_0, st_s])
  refine wl_give rfl (g_ileq 3 _ _ .i64 (1) (i) true rfl rfl (decide_eq_true h1) ?_)
  (try simp only [Act.put, st_a, st_0, st_s])
  refine wl_give rfl (g_pickt _ _ _ (.bool true) rfl rfl ?_)
  (try simp only [Act.put, st_a, st_0, st_s])
  refine wl_give rfl (g_move _ (.bool true) rfl ?_)
  (try simp only [Act.put, st_a, st_0, st_s])
  refine wl_give rfl (g_move _ (.int .i64 (i)) rfl ?_)
  (try simp only [Act.put, st_a, st_0, st_s])
  refine wl_give rfl (g_fa 25 _ (p) (0) (3) 3 rfl (faPl3 _ _ _) ?_)
  (try simp only [Act.put, st_a, st_0, st_s])
  refine wl_give rfl (g_ld1 3 _ (p) (3) _ rfl (ld3 _ _ _ _ ((hM.get 1 rfl).cell (3) _ (rfl))) ?_)
  (try simp only [Act.put, st_a, st_0, st_s])
  refine wl_give rfl (g_ld1 3 _ (q) (0) _ rfl (ld3 _ _ _ _ ((hM.get 2 rfl).cell (0) _ (rfl))) ?_)
  (try simp only [Act.put, st_a, st_0, st_s])
  refine wl_give rfl (g_ia 3 _ _ .i64 (P.ct) (n) (P.ct + n) rfl rfl hs.out ?_)
  (try simp only [Act.put, st_a, st_0, st_s])
  refine wl_give rfl (g_ileq 3 _ _ .i64 (i) (P.ct + n) false rfl rfl (decide_eq_false h2) ?_)
  (try simp only [Act.put, st_a, st_0, st_s])
  refine wl_give rfl (g_pickt _ _ _ (.bool false) rfl rfl ?_)
  (try simp only [Act.put, st_a, st_0, st_s])
  refine wl_give rfl (g_assign _ (.bool false) rfl ?_)
  (try simp only [Act.put, st_a, st_0, st_s])
  refine wl_nil ?_
  refine hK2 _ _ ?_
  (try clear hK2 K2)
  refine wp_ret ?_
  go_ret
  exact ⟨rfl, hBe⟩
set_option maxHeartbeats 4000000 in
theorem ask_in {w0 w : World} {R : List HP} {b p q : Nat} (P : Pl) (n i : Int) (hM : Ms w0 w (blk b [.bool (okP P)] 4 :: blk p (plc P) 25 :: blk q [.int .i64 n] 3 :: R)) (hk : okP P = true) (h1 : 1 ≤ i) (hs : Shut (IntKind.i64.wrap (P.ct + n) = P.ct + n)) (h2 : i ≤ P.ct + n) : Calls Tryd.prog 60 #[.int .i64 i, .pointer (some ⟨b, 0, none⟩), .pointer (some ⟨p, 0, none⟩), .pointer (some ⟨q, 0, none⟩)] w fun e w' => e = .returned (.bool true) ∧ Below w.heap.size w w' := by
  rw [hk] at hM
  have hBe := Below.refl w.heap.size w
  go_enter Tryd.func60, Tryd.ntmps60
  refine wp_seq_k (fun K1 hK1 => ?_)
  refine wl_region ?_
  refine wl_give rfl (g_assign _ (.bool false) rfl ?_)
  (try simp only [Act.put, st_a, st_0, st_s])
  refine wl_nil ?_
  refine hK1 _ _ ?_
  (try clear hK1 K1)
  refine wp_seq_k (fun K2 hK2 => ?_)
  refine wl_region ?_
  refine wl_give rfl (g_ld1 4 _ (b) (0) _ rfl (ld4 _ _ _ _ ((hM.get 0 rfl).cell (0) _ (rfl))) ?_)
  (try simp only [Act.put, st_a, st_0, st_s])
  refine wl_give rfl (g_move _ (.bool true) rfl ?_)
  (try simp only [Act.put, st_a, st_0, st_s])
  refine wl_give rfl (g_move _ (.int .i64 (i)) rfl ?_)
  (try simp only [Act.put, st_a, st_0, st_s])
  refine wl_give rfl (g_ileq 3 _ _ .i64 (1) (i) true rfl rfl (decide_eq_true h1) ?_)
  (try simp only [Act.put, st_a, st_0, st_s])
  refine wl_give rfl (g_pickt _ _ _ (.bool true) rfl rfl ?_)
  (try simp only [Act.put, st_a, st_0, st_s])
  refine wl_give rfl (g_move _ (.bool true) rfl ?_)
  (try simp only [Act.put, st_a, st_0, st_s])
  refine wl_give rfl (g_move _ (.int .i64 (i)) rfl ?_)
  (try simp only [Act.put, st_a, st_0, st_s])
  refine wl_give rfl (g_fa 25 _ (p) (0) (3) 3 rfl (faPl3 _ _ _) ?_)
  (try simp only [Act.put, st_a, st_0, st_s])
  refine wl_give rfl (g_ld1 3 _ (p) (3) _ rfl (ld3 _ _ _ _ ((hM.get 1 rfl).cell (3) _ (rfl))) ?_)
  (try simp only [Act.put, st_a, st_0, st_s])
  refine wl_give rfl (g_ld1 3 _ (q) (0) _ rfl (ld3 _ _ _ _ ((hM.get 2 rfl).cell (0) _ (rfl))) ?_)
  (try simp only [Act.put, st_a, st_0, st_s])
  refine wl_give rfl (g_ia 3 _ _ .i64 (P.ct) (n) (P.ct + n) rfl rfl hs.out ?_)
  (try simp only [Act.put, st_a, st_0, st_s])
  refine wl_give rfl (g_ileq 3 _ _ .i64 (i) (P.ct + n) true rfl rfl (decide_eq_true h2) ?_)
  (try simp only [Act.put, st_a, st_0, st_s])
  refine wl_give rfl (g_pickt _ _ _ (.bool true) rfl rfl ?_)
  (try simp only [Act.put, st_a, st_0, st_s])
  refine wl_give rfl (g_assign _ (.bool true) rfl ?_)
  (try simp only [Act.put, st_a, st_0, st_s])
  refine wl_nil ?_
  refine hK2 _ _ ?_
  (try clear hK2 K2)
  refine wp_ret ?_
  go_ret
  exact ⟨rfl, hBe⟩
theorem ask_any {w0 w : World} {R : List HP} {b p q : Nat} (P : Pl) (n i : Int) (hM : Ms w0 w (blk b [.bool (okP P)] 4 :: blk p (plc P) 25 :: blk q [.int .i64 n] 3 :: R)) (h : POk P → -9223372036854775808 ≤ P.ct + n ∧ P.ct + n ≤ 9223372036854775807) : Calls Tryd.prog 60 #[.int .i64 i, .pointer (some ⟨b, 0, none⟩), .pointer (some ⟨p, 0, none⟩), .pointer (some ⟨q, 0, none⟩)] w fun e w' => e = .returned (.bool (decide (POk P ∧ 1 ≤ i ∧ i ≤ P.ct + n))) ∧ Below w.heap.size w w' := by
  by_cases hk : POk P
  · have hk2 : okP P = true := decide_eq_true hk
    have hs : Shut (IntKind.i64.wrap (P.ct + n) = P.ct + n) := ⟨wrap_id _ (h hk).1 (h hk).2⟩
    by_cases h1 : 1 ≤ i
    · by_cases h2 : i ≤ P.ct + n
      · rw [decide_eq_true ⟨hk, h1, h2⟩]; exact ask_in P n i hM hk2 h1 hs h2
      · rw [decide_eq_false (fun h => h2 h.2.2)]; exact ask_hi P n i hM hk2 h1 hs h2
    · rw [decide_eq_false (fun h => h1 h.2.1)]; exact ask_lo P n i hM hk2 h1
  · rw [decide_eq_false (fun h => hk h.1)]; exact ask_no P n i hM (decide_eq_false hk)
set_option maxHeartbeats 4000000 in
theorem mom_a (P : Pl) (i : Int) (w : World) (e1 : Shut (IntKind.i64.wrap (i - 1) = i - 1)) (e2 : Shut (IntKind.i64.wrap ((i - 1) * P.lg) = (i - 1) * P.lg)) (e3 : Shut (IntKind.i64.wrap (P.st + (i - 1) * P.lg) = bgn P i)) : Calls Tryd.prog 46 #[.agg (plc P).toArray, .int .i64 i] w fun e w' => e = .returned (.int .i64 (bgn P i)) ∧ Below w.heap.size w w' := by
  have hM := Ms.refl w
  go_enter Tryd.func46, Tryd.ntmps46
  refine wp_seq_k (fun K1 hK1 => ?_)
  refine wl_region ?_
  refine wl_give rfl (g_box 25 _ (plc (P)) rfl ?_)
  intro w2 t_ b_
  replace hM := hM.new t_ b_
  clear t_ b_
  (try simp only [Act.put, st_a, st_0, st_s])
  refine wl_give rfl (g_assign _ (.int .i64 (0)) rfl ?_)
  (try simp only [Act.put, st_a, st_0, st_s])
  refine wl_nil ?_
  refine hK1 _ _ ?_
  (try clear hK1 K1)
  refine wp_seq_k (fun K3 hK3 => ?_)
  refine wl_region ?_
  refine wl_give rfl (g_fa 25 _ (w.heap.size) (0) (0) 0 rfl (faPl0 _ _ _) ?_)
  (try simp only [Act.put, st_a, st_0, st_s])
  refine wl_give rfl (g_ld1 2 _ (w.heap.size) (0) _ rfl (ld2 _ _ _ _ ((hM.get 0 rfl).cell (0) _ (rfl))) ?_)
  (try simp only [Act.put, st_a, st_0, st_s])
  refine wl_give rfl (g_move _ (.int .i64 (i)) rfl ?_)
  (try simp only [Act.put, st_a, st_0, st_s])
  refine wl_give rfl (g_isub 3 _ _ .i64 (i) (1) (i - 1) rfl rfl e1.out ?_)
  (try simp only [Act.put, st_a, st_0, st_s])
  refine wl_give rfl (g_fa 25 _ (w.heap.size) (0) (1) 1 rfl (faPl1 _ _ _) ?_)
  (try simp only [Act.put, st_a, st_0, st_s])
  refine wl_give rfl (g_ld1 2 _ (w.heap.size) (1) _ rfl (ld2 _ _ _ _ ((hM.get 0 rfl).cell (1) _ (rfl))) ?_)
  (try simp only [Act.put, st_a, st_0, st_s])
  refine wl_give rfl (g_imul 2 _ _ .i64 (i - 1) (P.lg) ((i - 1) * P.lg) rfl rfl e2.out ?_)
  (try simp only [Act.put, st_a, st_0, st_s])
  refine wl_give rfl (g_ia 2 _ _ .i64 (P.st) ((i - 1) * P.lg) (bgn P i) rfl rfl e3.out ?_)
  (try simp only [Act.put, st_a, st_0, st_s])
  refine wl_give rfl (g_assign _ (.int .i64 (bgn P i)) rfl ?_)
  (try simp only [Act.put, st_a, st_0, st_s])
  refine wl_nil ?_
  refine hK3 _ _ ?_
  (try clear hK3 K3)
  refine wp_ret ?_
  go_ret
  exact ⟨rfl, hM.below⟩
theorem mom_any (P : Pl) (i : Int) (w : World) (h : POk P) (h1 : 1 ≤ i) (h2 : i ≤ 1041) : Calls Tryd.prog 46 #[.agg (plc P).toArray, .int .i64 i] w fun e w' => e = .returned (.int .i64 (bgn P i)) ∧ Below w.heap.size w w' := by
  have b := mul_bd (a := i - 1) (b := P.lg) (A := 1040) (B := 1099511627776) (by omega) (by omega) (by omega) (by omega)
  have c := bgn_bd h h1 h2
  exact mom_a P i w ⟨wrap_id _ (by omega) (by omega)⟩ ⟨wrap_id _ (by omega) (by omega)⟩ ⟨wrap_id _ (by unfold bgn at c; omega) (by unfold bgn at c; omega)⟩
theorem asked_yes {w0 w : World} {R : List HP} {b p q : Nat} (P : Pl) (n i : Int) (hM : Ms w0 w (blk b [.bool (okP P)] 4 :: blk p (plc P) 25 :: blk q [.int .i64 n] 3 :: R)) (hn : (POk P ∧ 1 ≤ i ∧ i ≤ P.ct + n)) (h : POk P → -9223372036854775808 ≤ P.ct + n ∧ P.ct + n ≤ 9223372036854775807) : Calls Tryd.prog 60 #[.int .i64 i, .pointer (some ⟨b, 0, none⟩), .pointer (some ⟨p, 0, none⟩), .pointer (some ⟨q, 0, none⟩)] w fun e w' => e = .returned (.bool true) ∧ Below w.heap.size w w' := by
  have e := ask_any P n i hM h
  rwa [decide_eq_true hn] at e
theorem asked_no {w0 w : World} {R : List HP} {b p q : Nat} (P : Pl) (n i : Int) (hM : Ms w0 w (blk b [.bool (okP P)] 4 :: blk p (plc P) 25 :: blk q [.int .i64 n] 3 :: R)) (hn : ¬ (POk P ∧ 1 ≤ i ∧ i ≤ P.ct + n)) (h : POk P → -9223372036854775808 ≤ P.ct + n ∧ P.ct + n ≤ 9223372036854775807) : Calls Tryd.prog 60 #[.int .i64 i, .pointer (some ⟨b, 0, none⟩), .pointer (some ⟨p, 0, none⟩), .pointer (some ⟨q, 0, none⟩)] w fun e w' => e = .returned (.bool false) ∧ Below w.heap.size w w' := by
  have e := ask_any P n i hM h
  rwa [decide_eq_false hn] at e
set_option maxHeartbeats 4000000 in
theorem pbg_no (P : Pl) (i : Int) (w : World) (hn : ¬ (POk P ∧ 1 ≤ i ∧ i ≤ P.ct + 1)) : Calls Tryd.prog 24 #[.agg (plc P).toArray, .int .i64 i] w fun e w' => e = .returned (.tuple #[.int .i64 0, .int .i64 1]) ∧ Below w.heap.size w w' := by
  have hM := Ms.refl w
  go_enter Tryd.func24, Tryd.ntmps24
  refine wp_seq_k (fun K1 hK1 => ?_)
  refine wl_region ?_
  refine wl_give rfl (g_box 25 _ (plc (P)) rfl ?_)
  intro w2 t_ b_
  replace hM := hM.new t_ b_
  clear t_ b_
  (try simp only [Act.put, st_a, st_0, st_s])
  refine wl_give rfl (g_assign _ (.int .i64 (0)) rfl ?_)
  (try simp only [Act.put, st_a, st_0, st_s])
  refine wl_give rfl (g_assign _ (.int .i64 (0)) rfl ?_)
  (try simp only [Act.put, st_a, st_0, st_s])
  refine wl_nil ?_
  refine hK1 _ _ ?_
  (try clear hK1 K1)
  refine wp_seq_k (fun K3 hK3 => ?_)
  refine wp_seq_k (fun K4 hK4 => ?_)
  refine wl_region ?_
  refine wl_give rfl (g_load_all 25 _ (w.heap.size) (plc (P)) 25 _ rfl (hM.get 0 rfl) Tryd.underlying25 rfl (szPl _) ?_)
  (try simp only [Act.put, st_a, st_0, st_s])
  refine wl_give rfl (g_call 45 _ _ [.agg (plc (P)).toArray, .int .i64 (1)] (kf45 _ _) rfl ((asker_any P (1) hM).mono ?_))
  rintro e w5 ⟨b6, p7, q8, rfl, h_⟩
  refine ⟨_, rfl, ?_⟩
  replace hM : Ms w w5 [blk (b6) ([.bool (okP P)]) 4, blk (p7) (plc (P)) 25, blk (q8) ([.int .i64 (1)]) 3, blk (w.heap.size) (plc (P)) 25] := h_
  clear h_
  (try simp only [Act.put, st_a, st_0, st_s])
  refine wl_give rfl (g_assign _ (.func (.func 60) #[] #[.pointer (some ⟨b6, 0, none⟩), .pointer (some ⟨p7, 0, none⟩), .pointer (some ⟨q8, 0, none⟩)]) rfl ?_)
  (try simp only [Act.put, st_a, st_0, st_s])
  refine wl_nil ?_
  refine hK4 _ _ ?_
  (try clear hK4 K4)
  refine wp_seq_k (fun K9 hK9 => ?_)
  refine wl_region ?_
  refine wl_give rfl (g_move _ (.func (.func 60) #[] #[.pointer (some ⟨b6, 0, none⟩), .pointer (some ⟨p7, 0, none⟩), .pointer (some ⟨q8, 0, none⟩)]) rfl ?_)
  (try simp only [Act.put, st_a, st_0, st_s])
  refine wl_give rfl (g_move _ (.int .i64 (i)) rfl ?_)
  (try simp only [Act.put, st_a, st_0, st_s])
  refine wl_give rfl (g_callc _ 60 _ _ #[.pointer (some ⟨b6, 0, none⟩), .pointer (some ⟨p7, 0, none⟩), .pointer (some ⟨q8, 0, none⟩)] [.int .i64 (i)] rfl (kf60 _ _) rfl ((asked_no P 1 i (show Ms w w5 [blk (b6) ([.bool (okP P)]) 4, blk (p7) (plc (P)) 25, blk (q8) ([.int .i64 (1)]) 3, blk (w.heap.size) (plc (P)) 25] from (((hM.up 2 rfl).up 2 rfl).up 2 rfl)) hn (by intro hk; omega)).mono ?_))
  rintro e w10 ⟨rfl, t_⟩
  refine ⟨_, rfl, ?_⟩
  replace hM := hM.call t_
  clear t_
  (try simp only [Act.put, st_a, st_0, st_s])
  refine wl_give rfl (g_unot 4 _ false rfl ?_)
  (try simp only [Act.put, st_a, st_0, st_s])
  refine wl_nil ?_
  refine hK9 _ _ ?_
  (try clear hK9 K9)
  refine wp_cond_true rfl ?_
  refine wp_seq_k (fun K11 hK11 => ?_)
  refine wl_region ?_
  refine wl_give rfl (g_assign _ (.int .i64 (0)) rfl ?_)
  (try simp only [Act.put, st_a, st_0, st_s])
  refine wl_give rfl (g_assign _ (.int .i64 (1)) rfl ?_)
  (try simp only [Act.put, st_a, st_0, st_s])
  refine wl_nil ?_
  refine hK11 _ _ ?_
  (try clear hK11 K11)
  refine wp_ret ?_
  go_ret2
  exact ⟨rfl, hM.below⟩
set_option maxHeartbeats 4000000 in
theorem pbg_in (P : Pl) (i : Int) (w : World) (hn : POk P ∧ 1 ≤ i ∧ i ≤ P.ct + 1) : Calls Tryd.prog 24 #[.agg (plc P).toArray, .int .i64 i] w fun e w' => e = .returned (.tuple #[.int .i64 (bgn P i), .int .i64 0]) ∧ Below w.heap.size w w' := by
  have hM := Ms.refl w
  go_enter Tryd.func24, Tryd.ntmps24
  refine wp_seq_k (fun K1 hK1 => ?_)
  refine wl_region ?_
  refine wl_give rfl (g_box 25 _ (plc (P)) rfl ?_)
  intro w2 t_ b_
  replace hM := hM.new t_ b_
  clear t_ b_
  (try simp only [Act.put, st_a, st_0, st_s])
  refine wl_give rfl (g_assign _ (.int .i64 (0)) rfl ?_)
  (try simp only [Act.put, st_a, st_0, st_s])
  refine wl_give rfl (g_assign _ (.int .i64 (0)) rfl ?_)
  (try simp only [Act.put, st_a, st_0, st_s])
  refine wl_nil ?_
  refine hK1 _ _ ?_
  (try clear hK1 K1)
  refine wp_seq_k (fun K3 hK3 => ?_)
  refine wp_seq_k (fun K4 hK4 => ?_)
  refine wl_region ?_
  refine wl_give rfl (g_load_all 25 _ (w.heap.size) (plc (P)) 25 _ rfl (hM.get 0 rfl) Tryd.underlying25 rfl (szPl _) ?_)
  (try simp only [Act.put, st_a, st_0, st_s])
  refine wl_give rfl (g_call 45 _ _ [.agg (plc (P)).toArray, .int .i64 (1)] (kf45 _ _) rfl ((asker_any P (1) hM).mono ?_))
  rintro e w5 ⟨b6, p7, q8, rfl, h_⟩
  refine ⟨_, rfl, ?_⟩
  replace hM : Ms w w5 [blk (b6) ([.bool (okP P)]) 4, blk (p7) (plc (P)) 25, blk (q8) ([.int .i64 (1)]) 3, blk (w.heap.size) (plc (P)) 25] := h_
  clear h_
  (try simp only [Act.put, st_a, st_0, st_s])
  refine wl_give rfl (g_assign _ (.func (.func 60) #[] #[.pointer (some ⟨b6, 0, none⟩), .pointer (some ⟨p7, 0, none⟩), .pointer (some ⟨q8, 0, none⟩)]) rfl ?_)
  (try simp only [Act.put, st_a, st_0, st_s])
  refine wl_nil ?_
  refine hK4 _ _ ?_
  (try clear hK4 K4)
  refine wp_seq_k (fun K9 hK9 => ?_)
  refine wl_region ?_
  refine wl_give rfl (g_move _ (.func (.func 60) #[] #[.pointer (some ⟨b6, 0, none⟩), .pointer (some ⟨p7, 0, none⟩), .pointer (some ⟨q8, 0, none⟩)]) rfl ?_)
  (try simp only [Act.put, st_a, st_0, st_s])
  refine wl_give rfl (g_move _ (.int .i64 (i)) rfl ?_)
  (try simp only [Act.put, st_a, st_0, st_s])
  refine wl_give rfl (g_callc _ 60 _ _ #[.pointer (some ⟨b6, 0, none⟩), .pointer (some ⟨p7, 0, none⟩), .pointer (some ⟨q8, 0, none⟩)] [.int .i64 (i)] rfl (kf60 _ _) rfl ((asked_yes P 1 i (show Ms w w5 [blk (b6) ([.bool (okP P)]) 4, blk (p7) (plc (P)) 25, blk (q8) ([.int .i64 (1)]) 3, blk (w.heap.size) (plc (P)) 25] from (((hM.up 2 rfl).up 2 rfl).up 2 rfl)) hn (by intro hk; omega)).mono ?_))
  rintro e w10 ⟨rfl, t_⟩
  refine ⟨_, rfl, ?_⟩
  replace hM := hM.call t_
  clear t_
  (try simp only [Act.put, st_a, st_0, st_s])
  refine wl_give rfl (g_unot 4 _ true rfl ?_)
  (try simp only [Act.put, st_a, st_0, st_s])
  refine wl_nil ?_
  refine hK9 _ _ ?_
  (try clear hK9 K9)
  refine wp_cond_false rfl ?_
  refine wp_skip ?_
  refine hK3 _ _ ?_
  (try clear hK3 K3)
  refine wp_seq_k (fun K11 hK11 => ?_)
  refine wl_region ?_
  refine wl_give rfl (g_load_all 25 _ (w.heap.size) (plc (P)) 25 _ rfl (hM.get 3 rfl) Tryd.underlying25 rfl (szPl _) ?_)
  (try simp only [Act.put, st_a, st_0, st_s])
  refine wl_give rfl (g_move _ (.int .i64 (i)) rfl ?_)
  (try simp only [Act.put, st_a, st_0, st_s])
  refine wl_give rfl (g_call 46 _ _ [.agg (plc (P)).toArray, .int .i64 (i)] (kf46 _ _) rfl ((mom_any P i w10 hn.1 hn.2.1 (by have := hn.2.2; have := hn.1; omega)).mono ?_))
  rintro e w12 ⟨rfl, t_⟩
  refine ⟨_, rfl, ?_⟩
  replace hM := hM.call t_
  clear t_
  (try simp only [Act.put, st_a, st_0, st_s])
  refine wl_give rfl (g_assign _ (.int .i64 (bgn P i)) rfl ?_)
  (try simp only [Act.put, st_a, st_0, st_s])
  refine wl_give rfl (g_assign _ (.int .i64 (0)) rfl ?_)
  (try simp only [Act.put, st_a, st_0, st_s])
  refine wl_nil ?_
  refine hK11 _ _ ?_
  (try clear hK11 K11)
  refine wp_ret ?_
  go_ret2
  exact ⟨rfl, hM.below⟩
theorem pbegins_any (P : Pl) (i : Int) (w : World) (X E : Int) (h : Shut (pbg P i = (X, E))) : Calls Tryd.prog 24 #[.agg (plc P).toArray, .int .i64 i] w fun e w' => e = .returned (.tuple #[.int .i64 X, .int .i64 E]) ∧ Below w.heap.size w w' := by
  have h := h.out
  unfold pbg at h
  by_cases hn : POk P ∧ 1 ≤ i ∧ i ≤ P.ct + 1
  · rw [if_pos hn] at h; cases h; exact pbg_in P i w hn
  · rw [if_neg hn] at h; cases h; exact pbg_no P i w hn
set_option maxHeartbeats 4000000 in
theorem pend_any (P : Pl) (w : World) (c1 X E : Int) (ec : Shut (IntKind.i64.wrap (P.ct + 1) = c1)) (hb : Shut (pbg P c1 = (X, E))) : Calls Tryd.prog 49 #[.agg (plc P).toArray] w fun e w' => e = .returned (.tuple #[.int .i64 X, .int .i64 E]) ∧ Below w.heap.size w w' := by
  have hM := Ms.refl w
  go_enter Tryd.func49, Tryd.ntmps49
  refine wp_seq_k (fun K1 hK1 => ?_)
  refine wl_region ?_
  refine wl_give rfl (g_box 25 _ (plc (P)) rfl ?_)
  intro w2 t_ b_
  replace hM := hM.new t_ b_
  clear t_ b_
  (try simp only [Act.put, st_a, st_0, st_s])
  refine wl_give rfl (g_assign _ (.int .i64 (0)) rfl ?_)
  (try simp only [Act.put, st_a, st_0, st_s])
  refine wl_give rfl (g_assign _ (.int .i64 (0)) rfl ?_)
  (try simp only [Act.put, st_a, st_0, st_s])
  refine wl_nil ?_
  refine hK1 _ _ ?_
  (try clear hK1 K1)
  refine wp_seq_k (fun K3 hK3 => ?_)
  refine wl_region ?_
  refine wl_give rfl (g_load_all 25 _ (w.heap.size) (plc (P)) 25 _ rfl (hM.get 0 rfl) Tryd.underlying25 rfl (szPl _) ?_)
  (try simp only [Act.put, st_a, st_0, st_s])
  refine wl_give rfl (g_fa 25 _ (w.heap.size) (0) (3) 3 rfl (faPl3 _ _ _) ?_)
  (try simp only [Act.put, st_a, st_0, st_s])
  refine wl_give rfl (g_ld1 3 _ (w.heap.size) (3) _ rfl (ld3 _ _ _ _ ((hM.get 0 rfl).cell (3) _ (rfl))) ?_)
  (try simp only [Act.put, st_a, st_0, st_s])
  refine wl_give rfl (g_ia 3 _ _ .i64 (P.ct) (1) (c1) rfl rfl ec.out ?_)
  (try simp only [Act.put, st_a, st_0, st_s])
  refine wl_give rfl (g_call 24 _ _ [.agg (plc (P)).toArray, .int .i64 (c1)] (kf24 _ _) rfl ((pbegins_any P c1 w2 X E hb).mono ?_))
  rintro e w4 ⟨rfl, t_⟩
  refine ⟨_, rfl, ?_⟩
  replace hM := hM.call t_
  clear t_
  (try simp only [Act.put, st_a, st_0, st_s])
  refine wl_give rfl (g_extract _ #[.int .i64 (X), .int .i64 (E)] 0 (.int .i64 (X)) rfl rfl ?_)
  (try simp only [Act.put, st_a, st_0, st_s])
  refine wl_give rfl (g_extract _ #[.int .i64 (X), .int .i64 (E)] 1 (.int .i64 (E)) rfl rfl ?_)
  (try simp only [Act.put, st_a, st_0, st_s])
  refine wl_give rfl (g_assign _ (.int .i64 (X)) rfl ?_)
  (try simp only [Act.put, st_a, st_0, st_s])
  refine wl_give rfl (g_assign _ (.int .i64 (E)) rfl ?_)
  (try simp only [Act.put, st_a, st_0, st_s])
  refine wl_nil ?_
  refine hK3 _ _ ?_
  (try clear hK3 K3)
  refine wp_ret ?_
  go_ret2
  exact ⟨rfl, hM.below⟩
set_option maxHeartbeats 4000000 in
theorem then_bad (P : Pl) (w : World) (c1 X E : Int) (ec : Shut (IntKind.i64.wrap (P.ct + 1) = c1)) (hb : Shut (pbg P c1 = (X, E))) (hE : E ≠ 0) : Calls Tryd.prog 28 #[.agg (plc P).toArray] w fun e w' => e = .returned (.tuple #[.agg (plc pl0).toArray, .int .i64 E]) ∧ Below w.heap.size w w' := by
  have hM := Ms.refl w
  go_enter Tryd.func28, Tryd.ntmps28
  refine wp_seq_k (fun K1 hK1 => ?_)
  refine wl_region ?_
  refine wl_give rfl (g_box 25 _ (plc (P)) rfl ?_)
  intro w2 t_ b_
  replace hM := hM.new t_ b_
  clear t_ b_
  (try simp only [Act.put, st_a, st_0, st_s])
  refine wl_give rfl (g_alloc 25 (plc (pl0)) zeroPl ?_)
  intro w3 t_ b_
  replace hM := hM.new t_ b_
  clear t_ b_
  (try simp only [Act.put, st_a, st_0, st_s])
  refine wl_give rfl (g_assign _ (.int .i64 (0)) rfl ?_)
  (try simp only [Act.put, st_a, st_0, st_s])
  refine wl_nil ?_
  refine hK1 _ _ ?_
  (try clear hK1 K1)
  refine wp_seq_k (fun K4 hK4 => ?_)
  refine wl_region ?_
  refine wl_give rfl (g_load_all 25 _ (w.heap.size) (plc (P)) 25 _ rfl (hM.get 1 rfl) Tryd.underlying25 rfl (szPl _) ?_)
  (try simp only [Act.put, st_a, st_0, st_s])
  refine wl_give rfl (g_call 49 _ _ [.agg (plc (P)).toArray] (kf49 _ _) rfl ((pend_any P w3 c1 X E ec hb).mono ?_))
  rintro e w5 ⟨rfl, t_⟩
  refine ⟨_, rfl, ?_⟩
  replace hM := hM.call t_
  clear t_
  (try simp only [Act.put, st_a, st_0, st_s])
  refine wl_give rfl (g_move _ (.tuple #[.int .i64 (X), .int .i64 (E)]) rfl ?_)
  (try simp only [Act.put, st_a, st_0, st_s])
  refine wl_give rfl (g_extract _ #[.int .i64 (X), .int .i64 (E)] 0 (.int .i64 (X)) rfl rfl ?_)
  (try simp only [Act.put, st_a, st_0, st_s])
  refine wl_give rfl (g_extract _ #[.int .i64 (X), .int .i64 (E)] 1 (.int .i64 (E)) rfl rfl ?_)
  (try simp only [Act.put, st_a, st_0, st_s])
  refine wl_give rfl (g_assign _ (.int .i64 (X)) rfl ?_)
  (try simp only [Act.put, st_a, st_0, st_s])
  refine wl_give rfl (g_assign _ (.int .i64 (E)) rfl ?_)
  (try simp only [Act.put, st_a, st_0, st_s])
  refine wl_nil ?_
  refine hK4 _ _ ?_
  (try clear hK4 K4)
  refine wp_seq_k (fun K6 hK6 => ?_)
  refine wp_seq_k (fun K7 hK7 => ?_)
  refine wl_region ?_
  refine wl_give rfl (g_move _ (.int .i64 (E)) rfl ?_)
  (try simp only [Act.put, st_a, st_0, st_s])
  refine wl_give rfl (g_ine 29 _ _ .i64 (E) (0) true rfl rfl (decide_eq_true hE) ?_)
  (try simp only [Act.put, st_a, st_0, st_s])
  refine wl_nil ?_
  refine hK7 _ _ ?_
  (try clear hK7 K7)
  refine wp_cond_true rfl ?_
  refine wp_seq_k (fun K8 hK8 => ?_)
  refine wl_region ?_
  refine wl_give rfl (g_bldPl0 ?_)
  (try simp only [Act.put, st_a, st_0, st_s])
  refine wl_give rfl (g_move _ (.int .i64 (E)) rfl ?_)
  (try simp only [Act.put, st_a, st_0, st_s])
  refine wl_give rfl (g_store_all 25 _ _ (w2.heap.size) (plc (pl0)) _ 25 rfl rfl (hM.get 0 rfl) (szPl _) (pp_len _ _) (one_plc _) ?_)
  intro w9 t_ b_
  replace hM : Ms w w9 [blk (w2.heap.size) (plc (pl0)) 25, blk (w.heap.size) (plc (P)) 25] := hM.put 0 rfl t_ b_
  clear t_ b_
  (try simp only [Act.put, st_a, st_0, st_s])
  refine wl_give rfl (g_assign _ (.int .i64 (E)) rfl ?_)
  (try simp only [Act.put, st_a, st_0, st_s])
  refine wl_nil ?_
  refine hK8 _ _ ?_
  (try clear hK8 K8)
  refine wp_ret ?_
  (try simp only [Exit.inBlock, Exit.then])
  exact bodyPost_ret (results_blk_tmp rfl _ (plc (pl0)) (.int .i64 (E)) _ rfl rfl (hM.get 0 rfl) Tryd.underlying25 rfl (szPl _)) rfl ⟨rfl, hM.below⟩
set_option maxHeartbeats 4000000 in
theorem then_over (P : Pl) (w : World) (c1 X E : Int) (ec : Shut (IntKind.i64.wrap (P.ct + 1) = c1)) (hb : Shut (pbg P c1 = (X, E))) (hE : E = 0) (hX : 1152921504606846976 < X) : Calls Tryd.prog 28 #[.agg (plc P).toArray] w fun e w' => e = .returned (.tuple #[.agg (plc pl0).toArray, .int .i64 6]) ∧ Below w.heap.size w w' := by
  have hM := Ms.refl w
  go_enter Tryd.func28, Tryd.ntmps28
  refine wp_seq_k (fun K1 hK1 => ?_)
  refine wl_region ?_
  refine wl_give rfl (g_box 25 _ (plc (P)) rfl ?_)
  intro w2 t_ b_
  replace hM := hM.new t_ b_
  clear t_ b_
  (try simp only [Act.put, st_a, st_0, st_s])
  refine wl_give rfl (g_alloc 25 (plc (pl0)) zeroPl ?_)
  intro w3 t_ b_
  replace hM := hM.new t_ b_
  clear t_ b_
  (try simp only [Act.put, st_a, st_0, st_s])
  refine wl_give rfl (g_assign _ (.int .i64 (0)) rfl ?_)
  (try simp only [Act.put, st_a, st_0, st_s])
  refine wl_nil ?_
  refine hK1 _ _ ?_
  (try clear hK1 K1)
  refine wp_seq_k (fun K4 hK4 => ?_)
  refine wl_region ?_
  refine wl_give rfl (g_load_all 25 _ (w.heap.size) (plc (P)) 25 _ rfl (hM.get 1 rfl) Tryd.underlying25 rfl (szPl _) ?_)
  (try simp only [Act.put, st_a, st_0, st_s])
  refine wl_give rfl (g_call 49 _ _ [.agg (plc (P)).toArray] (kf49 _ _) rfl ((pend_any P w3 c1 X E ec hb).mono ?_))
  rintro e w5 ⟨rfl, t_⟩
  refine ⟨_, rfl, ?_⟩
  replace hM := hM.call t_
  clear t_
  (try simp only [Act.put, st_a, st_0, st_s])
  refine wl_give rfl (g_move _ (.tuple #[.int .i64 (X), .int .i64 (E)]) rfl ?_)
  (try simp only [Act.put, st_a, st_0, st_s])
  refine wl_give rfl (g_extract _ #[.int .i64 (X), .int .i64 (E)] 0 (.int .i64 (X)) rfl rfl ?_)
  (try simp only [Act.put, st_a, st_0, st_s])
  refine wl_give rfl (g_extract _ #[.int .i64 (X), .int .i64 (E)] 1 (.int .i64 (E)) rfl rfl ?_)
  (try simp only [Act.put, st_a, st_0, st_s])
  refine wl_give rfl (g_assign _ (.int .i64 (X)) rfl ?_)
  (try simp only [Act.put, st_a, st_0, st_s])
  refine wl_give rfl (g_assign _ (.int .i64 (E)) rfl ?_)
  (try simp only [Act.put, st_a, st_0, st_s])
  refine wl_nil ?_
  refine hK4 _ _ ?_
  (try clear hK4 K4)
  refine wp_seq_k (fun K6 hK6 => ?_)
  refine wp_seq_k (fun K7 hK7 => ?_)
  refine wl_region ?_
  refine wl_give rfl (g_move _ (.int .i64 (E)) rfl ?_)
  (try simp only [Act.put, st_a, st_0, st_s])
  refine wl_give rfl (g_ine 29 _ _ .i64 (E) (0) false rfl rfl (decide_eq_false (fun h => h hE)) ?_)
  (try simp only [Act.put, st_a, st_0, st_s])
  refine wl_nil ?_
  refine hK7 _ _ ?_
  (try clear hK7 K7)
  refine wp_cond_false rfl ?_
  refine wp_skip ?_
  refine hK6 _ _ ?_
  (try clear hK6 K6)
  refine wp_seq_k (fun K8 hK8 => ?_)
  refine wp_seq_k (fun K9 hK9 => ?_)
  refine wl_region ?_
  refine wl_give rfl (g_move _ (.int .i64 (X)) rfl ?_)
  (try simp only [Act.put, st_a, st_0, st_s])
  refine wl_give rfl (g_igtr 2 _ _ .i64 (X) (1152921504606846976) true rfl rfl (decide_eq_true hX) ?_)
  (try simp only [Act.put, st_a, st_0, st_s])
  refine wl_nil ?_
  refine hK9 _ _ ?_
  (try clear hK9 K9)
  refine wp_cond_true rfl ?_
  refine wp_seq_k (fun K10 hK10 => ?_)
  refine wl_region ?_
  refine wl_give rfl (g_bldPl0 ?_)
  (try simp only [Act.put, st_a, st_0, st_s])
  refine wl_give rfl (g_store_all 25 _ _ (w2.heap.size) (plc (pl0)) _ 25 rfl rfl (hM.get 0 rfl) (szPl _) (pp_len _ _) (one_plc _) ?_)
  intro w11 t_ b_
  replace hM : Ms w w11 [blk (w2.heap.size) (plc (pl0)) 25, blk (w.heap.size) (plc (P)) 25] := hM.put 0 rfl t_ b_
  clear t_ b_
  (try simp only [Act.put, st_a, st_0, st_s])
  refine wl_give rfl (g_assign _ (.int .i64 (6)) rfl ?_)
  (try simp only [Act.put, st_a, st_0, st_s])
  refine wl_nil ?_
  refine hK10 _ _ ?_
  (try clear hK10 K10)
  refine wp_ret ?_
  (try simp only [Exit.inBlock, Exit.then])
  exact bodyPost_ret (results_blk_tmp rfl _ (plc (pl0)) (.int .i64 (6)) _ rfl rfl (hM.get 0 rfl) Tryd.underlying25 rfl (szPl _)) rfl ⟨rfl, hM.below⟩
set_option maxHeartbeats 4000000 in
theorem then_ok (P : Pl) (w : World) (c1 X E : Int) (ec : Shut (IntKind.i64.wrap (P.ct + 1) = c1)) (hb : Shut (pbg P c1 = (X, E))) (hE : E = 0) (hX : ¬ 1152921504606846976 < X) : Calls Tryd.prog 28 #[.agg (plc P).toArray] w fun e w' => e = .returned (.tuple #[.agg (plc (⟨X, P.lg, P.dl, P.ct⟩ : Pl)).toArray, .int .i64 0]) ∧ Below w.heap.size w w' := by
  have hM := Ms.refl w
  go_enter Tryd.func28, Tryd.ntmps28
  refine wp_seq_k (fun K1 hK1 => ?_)
  refine wl_region ?_
  refine wl_give rfl (g_box 25 _ (plc (P)) rfl ?_)
  intro w2 t_ b_
  replace hM := hM.new t_ b_
  clear t_ b_
  (try simp only [Act.put, st_a, st_0, st_s])
  refine wl_give rfl (g_alloc 25 (plc (pl0)) zeroPl ?_)
  intro w3 t_ b_
  replace hM := hM.new t_ b_
  clear t_ b_
  (try simp only [Act.put, st_a, st_0, st_s])
  refine wl_give rfl (g_assign _ (.int .i64 (0)) rfl ?_)
  (try simp only [Act.put, st_a, st_0, st_s])
  refine wl_nil ?_
  refine hK1 _ _ ?_
  (try clear hK1 K1)
  refine wp_seq_k (fun K4 hK4 => ?_)
  refine wl_region ?_
  refine wl_give rfl (g_load_all 25 _ (w.heap.size) (plc (P)) 25 _ rfl (hM.get 1 rfl) Tryd.underlying25 rfl (szPl _) ?_)
  (try simp only [Act.put, st_a, st_0, st_s])
  refine wl_give rfl (g_call 49 _ _ [.agg (plc (P)).toArray] (kf49 _ _) rfl ((pend_any P w3 c1 X E ec hb).mono ?_))
  rintro e w5 ⟨rfl, t_⟩
  refine ⟨_, rfl, ?_⟩
  replace hM := hM.call t_
  clear t_
  (try simp only [Act.put, st_a, st_0, st_s])
  refine wl_give rfl (g_move _ (.tuple #[.int .i64 (X), .int .i64 (E)]) rfl ?_)
  (try simp only [Act.put, st_a, st_0, st_s])
  refine wl_give rfl (g_extract _ #[.int .i64 (X), .int .i64 (E)] 0 (.int .i64 (X)) rfl rfl ?_)
  (try simp only [Act.put, st_a, st_0, st_s])
  refine wl_give rfl (g_extract _ #[.int .i64 (X), .int .i64 (E)] 1 (.int .i64 (E)) rfl rfl ?_)
  (try simp only [Act.put, st_a, st_0, st_s])
  refine wl_give rfl (g_assign _ (.int .i64 (X)) rfl ?_)
  (try simp only [Act.put, st_a, st_0, st_s])
  refine wl_give rfl (g_assign _ (.int .i64 (E)) rfl ?_)
  (try simp only [Act.put, st_a, st_0, st_s])
  refine wl_nil ?_
  refine hK4 _ _ ?_
  (try clear hK4 K4)
  refine wp_seq_k (fun K6 hK6 => ?_)
  refine wp_seq_k (fun K7 hK7 => ?_)
  refine wl_region ?_
  refine wl_give rfl (g_move _ (.int .i64 (E)) rfl ?_)
  (try simp only [Act.put, st_a, st_0, st_s])
  refine wl_give rfl (g_ine 29 _ _ .i64 (E) (0) false rfl rfl (decide_eq_false (fun h => h hE)) ?_)
  (try simp only [Act.put, st_a, st_0, st_s])
  refine wl_nil ?_
  refine hK7 _ _ ?_
  (try clear hK7 K7)
  refine wp_cond_false rfl ?_
  refine wp_skip ?_
  refine hK6 _ _ ?_
  (try clear hK6 K6)
  refine wp_seq_k (fun K8 hK8 => ?_)
  refine wp_seq_k (fun K9 hK9 => ?_)
  refine wl_region ?_
  refine wl_give rfl (g_move _ (.int .i64 (X)) rfl ?_)
  (try simp only [Act.put, st_a, st_0, st_s])
  refine wl_give rfl (g_igtr 2 _ _ .i64 (X) (1152921504606846976) false rfl rfl (decide_eq_false hX) ?_)
  (try simp only [Act.put, st_a, st_0, st_s])
  refine wl_nil ?_
  refine hK9 _ _ ?_
  (try clear hK9 K9)
  refine wp_cond_false rfl ?_
  refine wp_skip ?_
  refine hK8 _ _ ?_
  (try clear hK8 K8)
  refine wp_seq_k (fun K10 hK10 => ?_)
  refine wl_region ?_
  refine wl_give rfl (g_move _ (.int .i64 (X)) rfl ?_)
  (try simp only [Act.put, st_a, st_0, st_s])
  refine wl_give rfl (g_fa 25 _ (w.heap.size) (0) (0) 0 rfl (faPl0 _ _ _) ?_)
  (try simp only [Act.put, st_a, st_0, st_s])
  refine wl_give rfl (g_st1 2 _ _ (w.heap.size) (0) (.int .i64 (X)) _ 25 rfl rfl (hM.get 1 rfl) (show 0 < 4 by decide) rfl rfl size2 ?_)
  intro w11 t_ b_
  replace hM : Ms w w11 [blk (w2.heap.size) (plc (pl0)) 25, blk (w.heap.size) (plc ((⟨X, (P).lg, (P).dl, (P).ct⟩ : Pl))) 25] := hM.put 1 rfl t_ b_
  clear t_ b_
  (try simp only [Act.put, st_a, st_0, st_s])
  refine wl_nil ?_
  refine hK10 _ _ ?_
  (try clear hK10 K10)
  refine wp_seq_k (fun K12 hK12 => ?_)
  refine wl_region ?_
  refine wl_give rfl (g_load_all 25 _ (w.heap.size) (plc ((⟨X, (P).lg, (P).dl, (P).ct⟩ : Pl))) 25 _ rfl (hM.get 1 rfl) Tryd.underlying25 rfl (szPl _) ?_)
  (try simp only [Act.put, st_a, st_0, st_s])
  refine wl_give rfl (g_store_all 25 _ _ (w2.heap.size) (plc ((⟨X, (P).lg, (P).dl, (P).ct⟩ : Pl))) _ 25 rfl rfl (hM.get 0 rfl) (szPl _) (pp_len _ _) (one_plc _) ?_)
  intro w13 t_ b_
  replace hM : Ms w w13 [blk (w2.heap.size) (plc ((⟨X, (P).lg, (P).dl, (P).ct⟩ : Pl))) 25, blk (w.heap.size) (plc ((⟨X, (P).lg, (P).dl, (P).ct⟩ : Pl))) 25] := hM.put 0 rfl t_ b_
  clear t_ b_
  (try simp only [Act.put, st_a, st_0, st_s])
  refine wl_give rfl (g_assign _ (.int .i64 (0)) rfl ?_)
  (try simp only [Act.put, st_a, st_0, st_s])
  refine wl_nil ?_
  refine hK12 _ _ ?_
  (try clear hK12 K12)
  refine wp_ret ?_
  (try simp only [Exit.inBlock, Exit.then])
  exact bodyPost_ret (results_blk_tmp rfl _ (plc ((⟨X, (P).lg, (P).dl, (P).ct⟩ : Pl))) (.int .i64 (0)) _ rfl rfl (hM.get 0 rfl) Tryd.underlying25 rfl (szPl _)) rfl ⟨rfl, hM.below⟩
theorem pthen_any (P : Pl) (w : World) (hp : PIn P) (q : Pl) (E : Int) (h : Shut (pth P = (q, E))) : Calls Tryd.prog 28 #[.agg (plc P).toArray] w fun e w' => e = .returned (.tuple #[.agg (plc q).toArray, .int .i64 E]) ∧ Below w.heap.size w w' := by
  have h := h.out
  unfold pth at h
  by_cases hk : POk P
  · rw [if_neg (fun hn => hn hk)] at h
    have ec : Shut (IntKind.i64.wrap (P.ct + 1) = P.ct + 1) := ⟨wrap_id _ (by omega) (by omega)⟩
    have hb : Shut (pbg P (P.ct + 1) = (bgn P (P.ct + 1), 0)) := ⟨by unfold pbg; rw [if_pos ⟨hk, by omega, by omega⟩]⟩
    by_cases hX : 1152921504606846976 < bgn P (P.ct + 1)
    · rw [if_pos hX] at h; cases h; exact then_over P w _ _ 0 ec hb rfl hX
    · rw [if_neg hX] at h; cases h; exact then_ok P w _ _ 0 ec hb rfl hX
  · rw [if_pos hk] at h; cases h
    exact then_bad P w _ 0 1 ⟨rfl⟩ ⟨by unfold pbg; rw [if_neg (fun hn => hk hn.1)]⟩ (by decide)
set_option maxHeartbeats 4000000 in
theorem tells_no (P : Pl) (i : Int) (w : World) (hn : ¬ (POk P ∧ 1 ≤ i ∧ i ≤ P.ct + P.dl)) : Calls Tryd.prog 33 #[.agg (plc P).toArray, .int .i64 i] w fun e w' => e = .returned (.int .i64 0) ∧ Below w.heap.size w w' := by
  have hM := Ms.refl w
  go_enter Tryd.func33, Tryd.ntmps33
  refine wp_seq_k (fun K1 hK1 => ?_)
  refine wl_region ?_
  refine wl_give rfl (g_box 25 _ (plc (P)) rfl ?_)
  intro w2 t_ b_
  replace hM := hM.new t_ b_
  clear t_ b_
  (try simp only [Act.put, st_a, st_0, st_s])
  refine wl_give rfl (g_assign _ (.int .i64 (0)) rfl ?_)
  (try simp only [Act.put, st_a, st_0, st_s])
  refine wl_nil ?_
  refine hK1 _ _ ?_
  (try clear hK1 K1)
  refine wp_seq_k (fun K3 hK3 => ?_)
  refine wp_seq_k (fun K4 hK4 => ?_)
  refine wl_region ?_
  refine wl_give rfl (g_load_all 25 _ (w.heap.size) (plc (P)) 25 _ rfl (hM.get 0 rfl) Tryd.underlying25 rfl (szPl _) ?_)
  (try simp only [Act.put, st_a, st_0, st_s])
  refine wl_give rfl (g_fa 25 _ (w.heap.size) (0) (2) 2 rfl (faPl2 _ _ _) ?_)
  (try simp only [Act.put, st_a, st_0, st_s])
  refine wl_give rfl (g_ld1 3 _ (w.heap.size) (2) _ rfl (ld3 _ _ _ _ ((hM.get 0 rfl).cell (2) _ (rfl))) ?_)
  (try simp only [Act.put, st_a, st_0, st_s])
  refine wl_give rfl (g_call 45 _ _ [.agg (plc (P)).toArray, .int .i64 ((P).dl)] (kf45 _ _) rfl ((asker_any P (P.dl) hM).mono ?_))
  rintro e w5 ⟨b6, p7, q8, rfl, h_⟩
  refine ⟨_, rfl, ?_⟩
  replace hM : Ms w w5 [blk (b6) ([.bool (okP P)]) 4, blk (p7) (plc (P)) 25, blk (q8) ([.int .i64 (P.dl)]) 3, blk (w.heap.size) (plc (P)) 25] := h_
  clear h_
  (try simp only [Act.put, st_a, st_0, st_s])
  refine wl_give rfl (g_assign _ (.func (.func 60) #[] #[.pointer (some ⟨b6, 0, none⟩), .pointer (some ⟨p7, 0, none⟩), .pointer (some ⟨q8, 0, none⟩)]) rfl ?_)
  (try simp only [Act.put, st_a, st_0, st_s])
  refine wl_nil ?_
  refine hK4 _ _ ?_
  (try clear hK4 K4)
  refine wp_seq_k (fun K9 hK9 => ?_)
  refine wl_region ?_
  refine wl_give rfl (g_move _ (.func (.func 60) #[] #[.pointer (some ⟨b6, 0, none⟩), .pointer (some ⟨p7, 0, none⟩), .pointer (some ⟨q8, 0, none⟩)]) rfl ?_)
  (try simp only [Act.put, st_a, st_0, st_s])
  refine wl_give rfl (g_move _ (.int .i64 (i)) rfl ?_)
  (try simp only [Act.put, st_a, st_0, st_s])
  refine wl_give rfl (g_callc _ 60 _ _ #[.pointer (some ⟨b6, 0, none⟩), .pointer (some ⟨p7, 0, none⟩), .pointer (some ⟨q8, 0, none⟩)] [.int .i64 (i)] rfl (kf60 _ _) rfl ((asked_no P P.dl i (show Ms w w5 [blk (b6) ([.bool (okP P)]) 4, blk (p7) (plc (P)) 25, blk (q8) ([.int .i64 (P.dl)]) 3, blk (w.heap.size) (plc (P)) 25] from (((hM.up 2 rfl).up 2 rfl).up 2 rfl)) hn (by intro hk; omega)).mono ?_))
  rintro e w10 ⟨rfl, t_⟩
  refine ⟨_, rfl, ?_⟩
  replace hM := hM.call t_
  clear t_
  (try simp only [Act.put, st_a, st_0, st_s])
  refine wl_give rfl (g_unot 4 _ false rfl ?_)
  (try simp only [Act.put, st_a, st_0, st_s])
  refine wl_nil ?_
  refine hK9 _ _ ?_
  (try clear hK9 K9)
  refine wp_cond_true rfl ?_
  refine wp_seq_k (fun K11 hK11 => ?_)
  refine wl_region ?_
  refine wl_give rfl (g_assign _ (.int .i64 (0)) rfl ?_)
  (try simp only [Act.put, st_a, st_0, st_s])
  refine wl_nil ?_
  refine hK11 _ _ ?_
  (try clear hK11 K11)
  refine wp_ret ?_
  go_ret
  exact ⟨rfl, hM.below⟩
set_option maxHeartbeats 4000000 in
theorem tells_in (P : Pl) (i : Int) (w : World) (hn : POk P ∧ 1 ≤ i ∧ i ≤ P.ct + P.dl) (es : Shut (IntKind.i64.wrap (i - P.dl) = i - P.dl)) : Calls Tryd.prog 33 #[.agg (plc P).toArray, .int .i64 i] w fun e w' => e = .returned (.int .i64 (max (i - P.dl) 0)) ∧ Below w.heap.size w w' := by
  have hM := Ms.refl w
  go_enter Tryd.func33, Tryd.ntmps33
  refine wp_seq_k (fun K1 hK1 => ?_)
  refine wl_region ?_
  refine wl_give rfl (g_box 25 _ (plc (P)) rfl ?_)
  intro w2 t_ b_
  replace hM := hM.new t_ b_
  clear t_ b_
  (try simp only [Act.put, st_a, st_0, st_s])
  refine wl_give rfl (g_assign _ (.int .i64 (0)) rfl ?_)
  (try simp only [Act.put, st_a, st_0, st_s])
  refine wl_nil ?_
  refine hK1 _ _ ?_
  (try clear hK1 K1)
  refine wp_seq_k (fun K3 hK3 => ?_)
  refine wp_seq_k (fun K4 hK4 => ?_)
  refine wl_region ?_
  refine wl_give rfl (g_load_all 25 _ (w.heap.size) (plc (P)) 25 _ rfl (hM.get 0 rfl) Tryd.underlying25 rfl (szPl _) ?_)
  (try simp only [Act.put, st_a, st_0, st_s])
  refine wl_give rfl (g_fa 25 _ (w.heap.size) (0) (2) 2 rfl (faPl2 _ _ _) ?_)
  (try simp only [Act.put, st_a, st_0, st_s])
  refine wl_give rfl (g_ld1 3 _ (w.heap.size) (2) _ rfl (ld3 _ _ _ _ ((hM.get 0 rfl).cell (2) _ (rfl))) ?_)
  (try simp only [Act.put, st_a, st_0, st_s])
  refine wl_give rfl (g_call 45 _ _ [.agg (plc (P)).toArray, .int .i64 ((P).dl)] (kf45 _ _) rfl ((asker_any P (P.dl) hM).mono ?_))
  rintro e w5 ⟨b6, p7, q8, rfl, h_⟩
  refine ⟨_, rfl, ?_⟩
  replace hM : Ms w w5 [blk (b6) ([.bool (okP P)]) 4, blk (p7) (plc (P)) 25, blk (q8) ([.int .i64 (P.dl)]) 3, blk (w.heap.size) (plc (P)) 25] := h_
  clear h_
  (try simp only [Act.put, st_a, st_0, st_s])
  refine wl_give rfl (g_assign _ (.func (.func 60) #[] #[.pointer (some ⟨b6, 0, none⟩), .pointer (some ⟨p7, 0, none⟩), .pointer (some ⟨q8, 0, none⟩)]) rfl ?_)
  (try simp only [Act.put, st_a, st_0, st_s])
  refine wl_nil ?_
  refine hK4 _ _ ?_
  (try clear hK4 K4)
  refine wp_seq_k (fun K9 hK9 => ?_)
  refine wl_region ?_
  refine wl_give rfl (g_move _ (.func (.func 60) #[] #[.pointer (some ⟨b6, 0, none⟩), .pointer (some ⟨p7, 0, none⟩), .pointer (some ⟨q8, 0, none⟩)]) rfl ?_)
  (try simp only [Act.put, st_a, st_0, st_s])
  refine wl_give rfl (g_move _ (.int .i64 (i)) rfl ?_)
  (try simp only [Act.put, st_a, st_0, st_s])
  refine wl_give rfl (g_callc _ 60 _ _ #[.pointer (some ⟨b6, 0, none⟩), .pointer (some ⟨p7, 0, none⟩), .pointer (some ⟨q8, 0, none⟩)] [.int .i64 (i)] rfl (kf60 _ _) rfl ((asked_yes P P.dl i (show Ms w w5 [blk (b6) ([.bool (okP P)]) 4, blk (p7) (plc (P)) 25, blk (q8) ([.int .i64 (P.dl)]) 3, blk (w.heap.size) (plc (P)) 25] from (((hM.up 2 rfl).up 2 rfl).up 2 rfl)) hn (by intro hk; omega)).mono ?_))
  rintro e w10 ⟨rfl, t_⟩
  refine ⟨_, rfl, ?_⟩
  replace hM := hM.call t_
  clear t_
  (try simp only [Act.put, st_a, st_0, st_s])
  refine wl_give rfl (g_unot 4 _ true rfl ?_)
  (try simp only [Act.put, st_a, st_0, st_s])
  refine wl_nil ?_
  refine hK9 _ _ ?_
  (try clear hK9 K9)
  refine wp_cond_false rfl ?_
  refine wp_skip ?_
  refine hK3 _ _ ?_
  (try clear hK3 K3)
  refine wp_seq_k (fun K11 hK11 => ?_)
  refine wl_region ?_
  refine wl_give rfl (g_move _ (.int .i64 (i)) rfl ?_)
  (try simp only [Act.put, st_a, st_0, st_s])
  refine wl_give rfl (g_fa 25 _ (w.heap.size) (0) (2) 2 rfl (faPl2 _ _ _) ?_)
  (try simp only [Act.put, st_a, st_0, st_s])
  refine wl_give rfl (g_ld1 3 _ (w.heap.size) (2) _ rfl (ld3 _ _ _ _ ((hM.get 3 rfl).cell (2) _ (rfl))) ?_)
  (try simp only [Act.put, st_a, st_0, st_s])
  refine wl_give rfl (g_isub 3 _ _ .i64 (i) (P.dl) (i - P.dl) rfl rfl es.out ?_)
  (try simp only [Act.put, st_a, st_0, st_s])
  refine wl_give rfl (g_max _ _ (i - P.dl) (0) (max (i - P.dl) 0) rfl rfl (rfl) ?_)
  (try simp only [Act.put, st_a, st_0, st_s])
  refine wl_give rfl (g_assign _ (.int .i64 (max (i - P.dl) 0)) rfl ?_)
  (try simp only [Act.put, st_a, st_0, st_s])
  refine wl_nil ?_
  refine hK11 _ _ ?_
  (try clear hK11 K11)
  refine wp_ret ?_
  go_ret
  exact ⟨rfl, hM.below⟩
theorem ptells_any (P : Pl) (i : Int) (w : World) (X : Int) (h : Shut (pte P i = X)) : Calls Tryd.prog 33 #[.agg (plc P).toArray, .int .i64 i] w fun e w' => e = .returned (.int .i64 X) ∧ Below w.heap.size w w' := by
  have h := h.out
  unfold pte at h
  by_cases hn : POk P ∧ 1 ≤ i ∧ i ≤ P.ct + P.dl
  · rw [if_pos hn] at h; subst h; exact tells_in P i w hn ⟨by have := hn.1; exact wrap_id _ (by omega) (by omega)⟩
  · rw [if_neg hn] at h; subst h; exact tells_no P i w hn
end Go.Proofs.YtphocklnhoakcaaDoor
