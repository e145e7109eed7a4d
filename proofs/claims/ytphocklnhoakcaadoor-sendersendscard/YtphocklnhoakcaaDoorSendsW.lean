/- SenderSends: the walk. -/
import Derived.Test.YtphocklnhoakcaaDoorLawC
import Derived.WalkKit
import Derived.WalkSpells
import Derived.WalkLawsBesides
namespace Go.Proofs.YtphocklnhoakcaaDoor.senderSends
set_option maxRecDepth 10000
open Go Go.RowKit
set_option linter.unusedVariables false
set_option linter.unusedSimpArgs false

theorem g_not {P : Program} {a : Act} {w : World} {dst : Option Tmp} {ty : TypeId} {pos : String} {aft : Array Edge} {gd : Option (Nat × Bool)} {K : Value → World → Prop} (t : TypeId) (x : Operand) (b r : Bool) (hx : a.eval x = .bool b) (hr : (!b) = r) (hk : K (.bool r) w) : gives P ⟨dst, .unOp .not t x, ty, pos, aft, gd⟩ a w K :=
  g_unot t x b hx (by rw [hr]; exact hk)
set_option maxHeartbeats 4000000 in
theorem walk_1 (s : Ky) (P : Pl) (ao : Option Addr) (n cap : Nat) (z : Int) (w : World) (hT : Tabs w) (hP : ¬ POk P) : Calls Tryd.prog 3 #[.agg (kc s).toArray, .agg (plc P).toArray, .slice ao n cap, .int .u8 z] w fun e w' => e = .returned (.bool true) ∧ Below w.heap.size w w' := by
  have hM := Ms.refl w
  go_enter Tryd.func3, Tryd.ntmps3
  refine wp_seq_k (fun K1 hK1 => ?_)
  refine wl_region ?_
  refine wl_give rfl (g_box 23 _ (kc (s)) rfl ?_)
  intro w2 t_ b_
  replace hM := hM.new t_ b_
  clear t_ b_
  (try simp only [Act.put, st_a, st_0, st_s])
  refine wl_give rfl (g_box 25 _ (plc (P)) rfl ?_)
  intro w3 t_ b_
  replace hM := hM.new t_ b_
  clear t_ b_
  (try simp only [Act.put, st_a, st_0, st_s])
  refine wl_give rfl (g_assign _ (.bool false) rfl ?_)
  (try simp only [Act.put, st_a, st_0, st_s])
  refine wl_nil ?_
  refine hK1 _ _ ?_
  (try clear hK1 K1)
  refine wp_seq_k (fun K4 hK4 => ?_)
  refine wp_seq_k (fun K5 hK5 => ?_)
  refine wl_region ?_
  refine wl_give rfl (g_call 9 _ _ [] (kf9 _ _) rfl ((awake_any w3 (hM.tabs hT)).mono ?_))
  rintro e w6 ⟨rfl, t_⟩
  refine ⟨_, rfl, ?_⟩
  replace hM := hM.call t_
  clear t_
  (try simp only [Act.put, st_a, st_0, st_s])
  refine wl_give rfl (g_unot 4 _ true rfl ?_)
  (try simp only [Act.put, st_a, st_0, st_s])
  refine wl_nil ?_
  refine hK5 _ _ ?_
  (try clear hK5 K5)
  refine wp_cond_false rfl ?_
  refine wp_skip ?_
  refine hK4 _ _ ?_
  (try clear hK4 K4)
  refine wp_seq_k (fun K7 hK7 => ?_)
  refine wl_region ?_
  refine wl_give rfl (g_load_all 23 _ (w.heap.size) (kc (s)) 23 _ rfl (hM.get 1 rfl) Tryd.underlying23 rfl (szK _) ?_)
  (try simp only [Act.put, st_a, st_0, st_s])
  refine wl_give rfl (g_load_all 25 _ (w2.heap.size) (plc (P)) 25 _ rfl (hM.get 0 rfl) Tryd.underlying25 rfl (szPl _) ?_)
  (try simp only [Act.put, st_a, st_0, st_s])
  refine wl_give rfl (g_call 10 _ _ [.agg (kc (s)).toArray, .agg (plc (P)).toArray] (kf10 _ _) rfl ((snew_bad (s) (P) w6 hP).mono ?_))
  rintro e w8 ⟨rfl, t_⟩
  refine ⟨_, rfl, ?_⟩
  replace hM := hM.call t_
  clear t_
  (try simp only [Act.put, st_a, st_0, st_s])
  refine wl_give rfl (g_move _ (.tuple #[.pointer none, .int .i64 (1)]) rfl ?_)
  (try simp only [Act.put, st_a, st_0, st_s])
  refine wl_give rfl (g_extract _ #[.pointer none, .int .i64 (1)] 0 (.pointer none) rfl rfl ?_)
  (try simp only [Act.put, st_a, st_0, st_s])
  refine wl_give rfl (g_extract _ #[.pointer none, .int .i64 (1)] 1 (.int .i64 (1)) rfl rfl ?_)
  (try simp only [Act.put, st_a, st_0, st_s])
  refine wl_give rfl (g_assign _ (.pointer none) rfl ?_)
  (try simp only [Act.put, st_a, st_0, st_s])
  refine wl_give rfl (g_assign _ (.int .i64 (1)) rfl ?_)
  (try simp only [Act.put, st_a, st_0, st_s])
  refine wl_nil ?_
  refine hK7 _ _ ?_
  (try clear hK7 K7)
  refine wp_seq_k (fun K9 hK9 => ?_)
  refine wp_seq_k (fun K10 hK10 => ?_)
  refine wl_region ?_
  refine wl_give rfl (g_load_all 25 _ (w2.heap.size) (plc (P)) 25 _ rfl (hM.get 0 rfl) Tryd.underlying25 rfl (szPl _) ?_)
  (try simp only [Act.put, st_a, st_0, st_s])
  refine wl_give rfl (g_call 11 _ _ [.agg (plc (P)).toArray] (kf11 _ _) rfl ((may_no P w8 hP).mono ?_))
  rintro e w11 ⟨rfl, t_⟩
  refine ⟨_, rfl, ?_⟩
  replace hM := hM.call t_
  clear t_
  (try simp only [Act.put, st_a, st_0, st_s])
  refine wl_give rfl (g_unot 4 _ false rfl ?_)
  (try simp only [Act.put, st_a, st_0, st_s])
  refine wl_nil ?_
  refine hK10 _ _ ?_
  (try clear hK10 K10)
  refine wp_cond_true rfl ?_
  refine wp_seq_k (fun K12 hK12 => ?_)
  refine wl_region ?_
  refine wl_give rfl (g_move _ (.pointer none) rfl ?_)
  (try simp only [Act.put, st_a, st_0, st_s])
  refine wl_give rfl (g_peqS _ (none) true rfl rfl ?_)
  (try simp only [Act.put, st_a, st_0, st_s])
  refine wl_give rfl (g_move _ (.bool true) rfl ?_)
  (try simp only [Act.put, st_a, st_0, st_s])
  refine wl_give rfl (g_move _ (.int .i64 (1)) rfl ?_)
  (try simp only [Act.put, st_a, st_0, st_s])
  refine wl_give rfl (g_ieq 29 _ _ .i64 (1) (1) true rfl rfl (by decide) ?_)
  (try simp only [Act.put, st_a, st_0, st_s])
  refine wl_give rfl (g_pickt _ _ _ (.bool true) rfl rfl ?_)
  (try simp only [Act.put, st_a, st_0, st_s])
  refine wl_give rfl (g_assign _ (.bool true) rfl ?_)
  (try simp only [Act.put, st_a, st_0, st_s])
  refine wl_nil ?_
  refine hK12 _ _ ?_
  (try clear hK12 K12)
  refine wp_ret ?_
  go_ret
  exact ⟨rfl, hM.below⟩
set_option maxHeartbeats 4000000 in
theorem walk_2 (s : Ky) (P : Pl) (ao : Option Addr) (n cap : Nat) (z : Int) (w : World) (hT : Tabs w) (hP : POk P) (h1 : 16 < P.ct) : Calls Tryd.prog 3 #[.agg (kc s).toArray, .agg (plc P).toArray, .slice ao n cap, .int .u8 z] w fun e w' => e = .returned (.bool true) ∧ Below w.heap.size w w' := by
  have hM := Ms.refl w
  go_enter Tryd.func3, Tryd.ntmps3
  refine wp_seq_k (fun K1 hK1 => ?_)
  refine wl_region ?_
  refine wl_give rfl (g_box 23 _ (kc (s)) rfl ?_)
  intro w2 t_ b_
  replace hM := hM.new t_ b_
  clear t_ b_
  (try simp only [Act.put, st_a, st_0, st_s])
  refine wl_give rfl (g_box 25 _ (plc (P)) rfl ?_)
  intro w3 t_ b_
  replace hM := hM.new t_ b_
  clear t_ b_
  (try simp only [Act.put, st_a, st_0, st_s])
  refine wl_give rfl (g_assign _ (.bool false) rfl ?_)
  (try simp only [Act.put, st_a, st_0, st_s])
  refine wl_nil ?_
  refine hK1 _ _ ?_
  (try clear hK1 K1)
  refine wp_seq_k (fun K4 hK4 => ?_)
  refine wp_seq_k (fun K5 hK5 => ?_)
  refine wl_region ?_
  refine wl_give rfl (g_call 9 _ _ [] (kf9 _ _) rfl ((awake_any w3 (hM.tabs hT)).mono ?_))
  rintro e w6 ⟨rfl, t_⟩
  refine ⟨_, rfl, ?_⟩
  replace hM := hM.call t_
  clear t_
  (try simp only [Act.put, st_a, st_0, st_s])
  refine wl_give rfl (g_unot 4 _ true rfl ?_)
  (try simp only [Act.put, st_a, st_0, st_s])
  refine wl_nil ?_
  refine hK5 _ _ ?_
  (try clear hK5 K5)
  refine wp_cond_false rfl ?_
  refine wp_skip ?_
  refine hK4 _ _ ?_
  (try clear hK4 K4)
  refine wp_seq_k (fun K7 hK7 => ?_)
  refine wl_region ?_
  refine wl_give rfl (g_load_all 23 _ (w.heap.size) (kc (s)) 23 _ rfl (hM.get 1 rfl) Tryd.underlying23 rfl (szK _) ?_)
  (try simp only [Act.put, st_a, st_0, st_s])
  refine wl_give rfl (g_load_all 25 _ (w2.heap.size) (plc (P)) 25 _ rfl (hM.get 0 rfl) Tryd.underlying25 rfl (szPl _) ?_)
  (try simp only [Act.put, st_a, st_0, st_s])
  refine wl_give rfl (g_call 10 _ _ [.agg (kc (s)).toArray, .agg (plc (P)).toArray] (kf10 _ _) rfl ((snew_any (s) (P) w w6 _ hM hT hP).mono ?_))
  rintro e w8 ⟨p9, rfl, h_⟩
  refine ⟨_, rfl, ?_⟩
  replace hM : Ms w w8 [sn p9 (s) (P) (0), blk (w2.heap.size) (plc (P)) 25, blk (w.heap.size) (kc (s)) 23] := h_
  clear h_
  (try simp only [Act.put, st_a, st_0, st_s])
  refine wl_give rfl (g_move _ (.tuple #[.pointer (some ⟨p9, 0, none⟩), .int .i64 (0)]) rfl ?_)
  (try simp only [Act.put, st_a, st_0, st_s])
  refine wl_give rfl (g_extract _ #[.pointer (some ⟨p9, 0, none⟩), .int .i64 (0)] 0 (.pointer (some ⟨p9, 0, none⟩)) rfl rfl ?_)
  (try simp only [Act.put, st_a, st_0, st_s])
  refine wl_give rfl (g_extract _ #[.pointer (some ⟨p9, 0, none⟩), .int .i64 (0)] 1 (.int .i64 (0)) rfl rfl ?_)
  (try simp only [Act.put, st_a, st_0, st_s])
  refine wl_give rfl (g_assign _ (.pointer (some ⟨p9, 0, none⟩)) rfl ?_)
  (try simp only [Act.put, st_a, st_0, st_s])
  refine wl_give rfl (g_assign _ (.int .i64 (0)) rfl ?_)
  (try simp only [Act.put, st_a, st_0, st_s])
  refine wl_nil ?_
  refine hK7 _ _ ?_
  (try clear hK7 K7)
  refine wp_seq_k (fun K10 hK10 => ?_)
  refine wp_seq_k (fun K11 hK11 => ?_)
  refine wl_region ?_
  refine wl_give rfl (g_load_all 25 _ (w2.heap.size) (plc (P)) 25 _ rfl (hM.get 1 rfl) Tryd.underlying25 rfl (szPl _) ?_)
  (try simp only [Act.put, st_a, st_0, st_s])
  refine wl_give rfl (g_call 11 _ _ [.agg (plc (P)).toArray] (kf11 _ _) rfl ((may_yes P w8 hP).mono ?_))
  rintro e w12 ⟨rfl, t_⟩
  refine ⟨_, rfl, ?_⟩
  replace hM := hM.call t_
  clear t_
  (try simp only [Act.put, st_a, st_0, st_s])
  refine wl_give rfl (g_unot 4 _ true rfl ?_)
  (try simp only [Act.put, st_a, st_0, st_s])
  refine wl_nil ?_
  refine hK11 _ _ ?_
  (try clear hK11 K11)
  refine wp_cond_false rfl ?_
  refine wp_skip ?_
  refine hK10 _ _ ?_
  (try clear hK10 K10)
  refine wp_seq_k (fun K13 hK13 => ?_)
  refine wp_seq_k (fun K14 hK14 => ?_)
  refine wl_region ?_
  refine wl_give rfl (g_move _ (.pointer (some ⟨p9, 0, none⟩)) rfl ?_)
  (try simp only [Act.put, st_a, st_0, st_s])
  refine wl_give rfl (g_peqS _ ((some ⟨p9, 0, none⟩)) false rfl rfl ?_)
  (try simp only [Act.put, st_a, st_0, st_s])
  refine wl_give rfl (g_move _ (.bool false) rfl ?_)
  (try simp only [Act.put, st_a, st_0, st_s])
  refine wl_give rfl (g_move _ (.int .i64 (0)) rfl ?_)
  (try simp only [Act.put, st_a, st_0, st_s])
  refine wl_give rfl (g_ine 29 _ _ .i64 (0) (0) false rfl rfl (by decide) ?_)
  (try simp only [Act.put, st_a, st_0, st_s])
  refine wl_give rfl (g_pickf _ _ _ (.bool false) rfl rfl ?_)
  (try simp only [Act.put, st_a, st_0, st_s])
  refine wl_nil ?_
  refine hK14 _ _ ?_
  (try clear hK14 K14)
  refine wp_cond_false rfl ?_
  refine wp_skip ?_
  refine hK13 _ _ ?_
  (try clear hK13 K13)
  refine wp_seq_k (fun K15 hK15 => ?_)
  refine wp_seq_k (fun K16 hK16 => ?_)
  refine wl_region ?_
  refine wl_give rfl (g_fa 25 _ (w2.heap.size) (0) (3) 3 rfl (faPl3 _ _ _) ?_)
  (try simp only [Act.put, st_a, st_0, st_s])
  refine wl_give rfl (g_ld1 3 _ (w2.heap.size) (3) _ rfl (ld3 _ _ _ _ ((hM.get 1 rfl).cell (3) _ (rfl))) ?_)
  (try simp only [Act.put, st_a, st_0, st_s])
  refine wl_give rfl (g_igtr 3 _ _ .i64 ((P).ct) (16) true rfl rfl (decide_eq_true h1) ?_)
  (try simp only [Act.put, st_a, st_0, st_s])
  refine wl_nil ?_
  refine hK16 _ _ ?_
  (try clear hK16 K16)
  refine wp_cond_true rfl ?_
  refine wp_seq_k (fun K17 hK17 => ?_)
  refine wl_region ?_
  refine wl_give rfl (g_assign _ (.bool true) rfl ?_)
  (try simp only [Act.put, st_a, st_0, st_s])
  refine wl_nil ?_
  refine hK17 _ _ ?_
  (try clear hK17 K17)
  refine wp_ret ?_
  go_ret
  exact ⟨rfl, hM.below⟩
set_option maxHeartbeats 4000000 in
theorem walk_3 (s : Ky) (P : Pl) (ao : Option Addr) (n cap : Nat) (z : Int) (w : World) (hT : Tabs w) (hP : POk P) (h1 : ¬ 16 < P.ct) (z30 : Int) (wz : Shut (IntKind.i64.wrap z30 = z30)) (eZ : Shut (z.tmod 30 = z30)) (hc : LC w ao n) (hn : n ≤ 9223372036854775807) : Calls Tryd.prog 3 #[.agg (kc s).toArray, .agg (plc P).toArray, .slice ao n cap, .int .u8 z] w fun e w' => e = .returned (.bool true) ∧ Below w.heap.size w w' := by
  have hM := Ms.refl w
  go_enter Tryd.func3, Tryd.ntmps3
  refine wp_seq_k (fun K1 hK1 => ?_)
  refine wl_region ?_
  refine wl_give rfl (g_box 23 _ (kc (s)) rfl ?_)
  intro w2 t_ b_
  replace hM := hM.new t_ b_
  clear t_ b_
  (try simp only [Act.put, st_a, st_0, st_s])
  refine wl_give rfl (g_box 25 _ (plc (P)) rfl ?_)
  intro w3 t_ b_
  replace hM := hM.new t_ b_
  clear t_ b_
  (try simp only [Act.put, st_a, st_0, st_s])
  refine wl_give rfl (g_assign _ (.bool false) rfl ?_)
  (try simp only [Act.put, st_a, st_0, st_s])
  refine wl_nil ?_
  refine hK1 _ _ ?_
  (try clear hK1 K1)
  refine wp_seq_k (fun K4 hK4 => ?_)
  refine wp_seq_k (fun K5 hK5 => ?_)
  refine wl_region ?_
  refine wl_give rfl (g_call 9 _ _ [] (kf9 _ _) rfl ((awake_any w3 (hM.tabs hT)).mono ?_))
  rintro e w6 ⟨rfl, t_⟩
  refine ⟨_, rfl, ?_⟩
  replace hM := hM.call t_
  clear t_
  (try simp only [Act.put, st_a, st_0, st_s])
  refine wl_give rfl (g_not 4 _ true false rfl rfl ?_)
  (try simp only [Act.put, st_a, st_0, st_s])
  refine wl_nil ?_
  refine hK5 _ _ ?_
  (try clear hK5 K5)
  refine wp_cond_false rfl ?_
  refine wp_skip ?_
  refine hK4 _ _ ?_
  (try clear hK4 K4)
  refine wp_seq_k (fun K7 hK7 => ?_)
  refine wl_region ?_
  refine wl_give rfl (g_load_all 23 _ (w.heap.size) (kc (s)) 23 _ rfl (hM.get 1 rfl) Tryd.underlying23 rfl (szK _) ?_)
  (try simp only [Act.put, st_a, st_0, st_s])
  refine wl_give rfl (g_load_all 25 _ (w2.heap.size) (plc (P)) 25 _ rfl (hM.get 0 rfl) Tryd.underlying25 rfl (szPl _) ?_)
  (try simp only [Act.put, st_a, st_0, st_s])
  refine wl_give rfl (g_call 10 _ _ [.agg (kc (s)).toArray, .agg (plc (P)).toArray] (kf10 _ _) rfl ((snew_any (s) (P) w w6 _ hM hT hP).mono ?_))
  rintro e w8 ⟨p9, rfl, h_⟩
  refine ⟨_, rfl, ?_⟩
  replace hM : Ms w w8 [sn p9 (s) (P) (0), blk (w2.heap.size) (plc (P)) 25, blk (w.heap.size) (kc (s)) 23] := h_
  clear h_
  (try simp only [Act.put, st_a, st_0, st_s])
  refine wl_give rfl (g_move _ (.tuple #[.pointer (some ⟨p9, 0, none⟩), .int .i64 (0)]) rfl ?_)
  (try simp only [Act.put, st_a, st_0, st_s])
  refine wl_give rfl (g_extract _ #[.pointer (some ⟨p9, 0, none⟩), .int .i64 (0)] 0 (.pointer (some ⟨p9, 0, none⟩)) rfl rfl ?_)
  (try simp only [Act.put, st_a, st_0, st_s])
  refine wl_give rfl (g_extract _ #[.pointer (some ⟨p9, 0, none⟩), .int .i64 (0)] 1 (.int .i64 (0)) rfl rfl ?_)
  (try simp only [Act.put, st_a, st_0, st_s])
  refine wl_give rfl (g_assign _ (.pointer (some ⟨p9, 0, none⟩)) rfl ?_)
  (try simp only [Act.put, st_a, st_0, st_s])
  refine wl_give rfl (g_assign _ (.int .i64 (0)) rfl ?_)
  (try simp only [Act.put, st_a, st_0, st_s])
  refine wl_nil ?_
  refine hK7 _ _ ?_
  (try clear hK7 K7)
  refine wp_seq_k (fun K10 hK10 => ?_)
  refine wp_seq_k (fun K11 hK11 => ?_)
  refine wl_region ?_
  refine wl_give rfl (g_load_all 25 _ (w2.heap.size) (plc (P)) 25 _ rfl (hM.get 1 rfl) Tryd.underlying25 rfl (szPl _) ?_)
  (try simp only [Act.put, st_a, st_0, st_s])
  refine wl_give rfl (g_call 11 _ _ [.agg (plc (P)).toArray] (kf11 _ _) rfl ((may_yes P w8 hP).mono ?_))
  rintro e w12 ⟨rfl, t_⟩
  refine ⟨_, rfl, ?_⟩
  replace hM := hM.call t_
  clear t_
  (try simp only [Act.put, st_a, st_0, st_s])
  refine wl_give rfl (g_not 4 _ true false rfl rfl ?_)
  (try simp only [Act.put, st_a, st_0, st_s])
  refine wl_nil ?_
  refine hK11 _ _ ?_
  (try clear hK11 K11)
  refine wp_cond_false rfl ?_
  refine wp_skip ?_
  refine hK10 _ _ ?_
  (try clear hK10 K10)
  refine wp_seq_k (fun K13 hK13 => ?_)
  refine wp_seq_k (fun K14 hK14 => ?_)
  refine wl_region ?_
  refine wl_give rfl (g_move _ (.pointer (some ⟨p9, 0, none⟩)) rfl ?_)
  (try simp only [Act.put, st_a, st_0, st_s])
  refine wl_give rfl (g_peqS _ ((some ⟨p9, 0, none⟩)) false rfl rfl ?_)
  (try simp only [Act.put, st_a, st_0, st_s])
  refine wl_give rfl (g_move _ (.bool false) rfl ?_)
  (try simp only [Act.put, st_a, st_0, st_s])
  refine wl_give rfl (g_move _ (.int .i64 (0)) rfl ?_)
  (try simp only [Act.put, st_a, st_0, st_s])
  refine wl_give rfl (g_ine 29 _ _ .i64 (0) (0) false rfl rfl (by decide) ?_)
  (try simp only [Act.put, st_a, st_0, st_s])
  refine wl_give rfl (g_pickf _ _ _ (.bool false) rfl rfl ?_)
  (try simp only [Act.put, st_a, st_0, st_s])
  refine wl_nil ?_
  refine hK14 _ _ ?_
  (try clear hK14 K14)
  refine wp_cond_false rfl ?_
  refine wp_skip ?_
  refine hK13 _ _ ?_
  (try clear hK13 K13)
  refine wp_seq_k (fun K15 hK15 => ?_)
  refine wp_seq_k (fun K16 hK16 => ?_)
  refine wl_region ?_
  refine wl_give rfl (g_fa 25 _ (w2.heap.size) (0) (3) 3 rfl (faPl3 _ _ _) ?_)
  (try simp only [Act.put, st_a, st_0, st_s])
  refine wl_give rfl (g_ld1 3 _ (w2.heap.size) (3) _ rfl (ld3 _ _ _ _ ((hM.get 1 rfl).cell (3) _ (rfl))) ?_)
  (try simp only [Act.put, st_a, st_0, st_s])
  refine wl_give rfl (g_igtr 3 _ _ .i64 ((P).ct) (16) false rfl rfl (decide_eq_false h1) ?_)
  (try simp only [Act.put, st_a, st_0, st_s])
  refine wl_nil ?_
  refine hK16 _ _ ?_
  (try clear hK16 K16)
  refine wp_cond_false rfl ?_
  refine wp_skip ?_
  refine hK15 _ _ ?_
  (try clear hK15 K15)
  refine wp_seq_k (fun K17 hK17 => ?_)
  refine wl_region ?_
  refine wl_give rfl (g_load_all 23 _ (w.heap.size) (kc (s)) 23 _ rfl (hM.get 2 rfl) Tryd.underlying23 rfl (szK _) ?_)
  (try simp only [Act.put, st_a, st_0, st_s])
  refine wl_give rfl (g_load_all 25 _ (w2.heap.size) (plc (P)) 25 _ rfl (hM.get 1 rfl) Tryd.underlying25 rfl (szPl _) ?_)
  (try simp only [Act.put, st_a, st_0, st_s])
  refine wl_give rfl (g_bldRs _ _ (s) (P) rfl rfl ?_)
  (try simp only [Act.put, st_a, st_0, st_s])
  refine wl_give rfl (g_box 36 _ (rsc (s) (P) (0)) rfl ?_)
  intro w18 t_ b_
  replace hM := hM.new t_ b_
  clear t_ b_
  (try simp only [Act.put, st_a, st_0, st_s])
  refine wl_give rfl (g_assign _ (.pointer (some ⟨w12.heap.size, 0, none⟩)) rfl ?_)
  (try simp only [Act.put, st_a, st_0, st_s])
  refine wl_nil ?_
  refine hK17 _ _ ?_
  (try clear hK17 K17)
  refine wp_seq_k (fun K19 hK19 => ?_)
  refine wp_seq_k (fun K20 hK20 => ?_)
  refine wl_region ?_
  refine wl_give rfl (g_assign _ (.int .i64 (0)) rfl ?_)
  (try simp only [Act.put, st_a, st_0, st_s])
  refine wl_nil ?_
  refine hK20 _ _ ?_
  (try clear hK20 K20)
  refine wp_block ?_
  go_loopw [9, 11, 12] (fun v9 v11 v12 wr => ∃ (j p q : Nat) (ss : Ky) (PP : Pl) (l : Int), j ≤ n ∧ POk PP ∧ 0 ≤ l ∧ l ≤ PP.ct ∧ v9 = .pointer (some ⟨p, 0, none⟩) ∧ v11 = .pointer (some ⟨q, 0, none⟩) ∧ v12 = .int .i64 ((j : Nat) : Int) ∧ Ms w wr [blk (q) (rsc (ss) (PP) (l)) 36, sn p (ss) (PP) (l), blk (w2.heap.size) (plc (P)) 25, blk (w.heap.size) (kc (s)) 23]) (fun _ _ v12 _ => (n - intOf v12).toNat)
  case atStart => exact ⟨0, _, _, s, P, 0, Nat.zero_le _, hP, Int.le_refl _, by omega, rfl, rfl, rfl, hM⟩
  case round =>
    clear hM
    obtain ⟨j, p, q, ss, PP, l, hj, hPP, hl0, hl1, rfl, rfl, rfl, hM⟩ := hrel
    by_cases hjn : j < n
    · by_cases h30 : (j : Int) < 30
      · obtain ⟨b, o, t, y, eao, c0, c1, ht⟩ := hc j hjn
        subst eao
        have ej : Shut (IntKind.i64.wrap (((j : Nat) : Int) + 1) = ((j + 1 : Nat) : Int)) := ⟨by rw [wrap_id _ (by omega) (by omega)]; omega⟩
        have hsdA : ∀ (ss : Ky) (PP : Pl) (l : Int), ∃ i' x' g' t' k' E' l', Shut (sdA ss PP l t y = ((⟨i', x', g', t', k'⟩, E'), l')) := fun ss PP l => ⟨_, _, _, _, _, _, _, ⟨rfl⟩⟩
        by_cases hlg : 1100 < y.size
        · skip
          refine wp_seq_k (fun K21 hK21 => ?_)
          refine wp_seq_k (fun K22 hK22 => ?_)
          refine wl_region ?_
          refine wl_give rfl (g_move _ (.int .i64 (((j : Nat) : Int))) rfl ?_)
          (try simp only [Act.put, st_a, st_0, st_s])
          refine wl_give rfl (g_move _ (.slice (some ⟨b, o, none⟩) (n) (cap)) rfl ?_)
          (try simp only [Act.put, st_a, st_0, st_s])
          refine wl_give rfl (g_len _ 26 39 ((some ⟨b, o, none⟩)) (n) (cap) (((n : Nat) : Int)) Tryd.underlying26 rfl (rfl) ?_)
          (try simp only [Act.put, st_a, st_0, st_s])
          refine wl_give rfl (g_ilss 3 _ _ .i64 (((j : Nat) : Int)) (((n : Nat) : Int)) true rfl rfl (decide_eq_true (by omega)) ?_)
          (try simp only [Act.put, st_a, st_0, st_s])
          refine wl_give rfl (g_move _ (.bool true) rfl ?_)
          (try simp only [Act.put, st_a, st_0, st_s])
          refine wl_give rfl (g_move _ (.int .i64 (((j : Nat) : Int))) rfl ?_)
          (try simp only [Act.put, st_a, st_0, st_s])
          refine wl_give rfl (g_ilss 3 _ _ .i64 (((j : Nat) : Int)) (30) true rfl rfl (decide_eq_true h30) ?_)
          (try simp only [Act.put, st_a, st_0, st_s])
          refine wl_give rfl (g_pickt _ _ _ (.bool true) rfl rfl ?_)
          (try simp only [Act.put, st_a, st_0, st_s])
          refine wl_nil ?_
          refine hK22 _ _ ?_
          (try clear hK22 K22)
          refine wp_cond_true rfl ?_
          refine wp_skip ?_
          refine hK21 _ _ ?_
          (try clear hK21 K21)
          refine wp_seq_k (fun K23 hK23 => ?_)
          refine wp_block ?_
          refine wp_seq_k (fun K24 hK24 => ?_)
          refine wp_seq_k (fun K25 hK25 => ?_)
          refine wl_region ?_
          refine wl_give rfl (g_move _ (.slice (some ⟨b, o, none⟩) (n) (cap)) rfl ?_)
          (try simp only [Act.put, st_a, st_0, st_s])
          refine wl_give rfl (g_move _ (.int .i64 (((j : Nat) : Int))) rfl ?_)
          (try simp only [Act.put, st_a, st_0, st_s])
          refine wl_give rfl (g_ix _ _ 26 39 2 Tryd.underlying26 szof39 b o n cap j (o + j * 2) _ rfl rfl rfl hjn rfl ?_)
          (try simp only [Act.put, st_a, st_0, st_s])
          refine wl_give rfl (g_ldC _ b (o + j * 2) (t) (y) rfl (cell_on hM c0) (cell_on hM c1) ?_)
          (try simp only [Act.put, st_a, st_0, st_s])
          refine wl_give rfl (g_call 12 _ _ [.agg (cac (t) (y)).toArray] (kf12 _ _) rfl ((large_yes t y wr hlg).mono ?_))
          rintro e w26 ⟨rfl, t_⟩
          refine ⟨_, rfl, ?_⟩
          replace hM := hM.call t_
          clear t_
          (try simp only [Act.put, st_a, st_0, st_s])
          refine wl_nil ?_
          refine hK25 _ _ ?_
          (try clear hK25 K25)
          refine wp_cond_true rfl ?_
          refine wp_seq_k (fun K27 hK27 => ?_)
          refine wl_region ?_
          refine wl_give rfl (g_assign _ (.bool true) rfl ?_)
          (try simp only [Act.put, st_a, st_0, st_s])
          refine wl_nil ?_
          refine hK27 _ _ ?_
          (try clear hK27 K27)
          refine wp_ret ?_
          go_ret
          exact ⟨rfl, hM.below⟩
        · skip
          refine wp_seq_k (fun K28 hK28 => ?_)
          refine wp_seq_k (fun K29 hK29 => ?_)
          refine wl_region ?_
          refine wl_give rfl (g_move _ (.int .i64 (((j : Nat) : Int))) rfl ?_)
          (try simp only [Act.put, st_a, st_0, st_s])
          refine wl_give rfl (g_move _ (.slice (some ⟨b, o, none⟩) (n) (cap)) rfl ?_)
          (try simp only [Act.put, st_a, st_0, st_s])
          refine wl_give rfl (g_len _ 26 39 ((some ⟨b, o, none⟩)) (n) (cap) (((n : Nat) : Int)) Tryd.underlying26 rfl (rfl) ?_)
          (try simp only [Act.put, st_a, st_0, st_s])
          refine wl_give rfl (g_ilss 3 _ _ .i64 (((j : Nat) : Int)) (((n : Nat) : Int)) true rfl rfl (decide_eq_true (by omega)) ?_)
          (try simp only [Act.put, st_a, st_0, st_s])
          refine wl_give rfl (g_move _ (.bool true) rfl ?_)
          (try simp only [Act.put, st_a, st_0, st_s])
          refine wl_give rfl (g_move _ (.int .i64 (((j : Nat) : Int))) rfl ?_)
          (try simp only [Act.put, st_a, st_0, st_s])
          refine wl_give rfl (g_ilss 3 _ _ .i64 (((j : Nat) : Int)) (30) true rfl rfl (decide_eq_true h30) ?_)
          (try simp only [Act.put, st_a, st_0, st_s])
          refine wl_give rfl (g_pickt _ _ _ (.bool true) rfl rfl ?_)
          (try simp only [Act.put, st_a, st_0, st_s])
          refine wl_nil ?_
          refine hK29 _ _ ?_
          (try clear hK29 K29)
          refine wp_cond_true rfl ?_
          refine wp_skip ?_
          refine hK28 _ _ ?_
          (try clear hK28 K28)
          refine wp_seq_k (fun K30 hK30 => ?_)
          refine wp_block ?_
          refine wp_seq_k (fun K31 hK31 => ?_)
          refine wp_seq_k (fun K32 hK32 => ?_)
          refine wl_region ?_
          refine wl_give rfl (g_move _ (.slice (some ⟨b, o, none⟩) (n) (cap)) rfl ?_)
          (try simp only [Act.put, st_a, st_0, st_s])
          refine wl_give rfl (g_move _ (.int .i64 (((j : Nat) : Int))) rfl ?_)
          (try simp only [Act.put, st_a, st_0, st_s])
          refine wl_give rfl (g_ix _ _ 26 39 2 Tryd.underlying26 szof39 b o n cap j (o + j * 2) _ rfl rfl rfl hjn rfl ?_)
          (try simp only [Act.put, st_a, st_0, st_s])
          refine wl_give rfl (g_ldC _ b (o + j * 2) (t) (y) rfl (cell_on hM c0) (cell_on hM c1) ?_)
          (try simp only [Act.put, st_a, st_0, st_s])
          refine wl_give rfl (g_call 12 _ _ [.agg (cac (t) (y)).toArray] (kf12 _ _) rfl ((large_no t y wr hlg).mono ?_))
          rintro e w33 ⟨rfl, t_⟩
          refine ⟨_, rfl, ?_⟩
          replace hM := hM.call t_
          clear t_
          (try simp only [Act.put, st_a, st_0, st_s])
          refine wl_nil ?_
          refine hK32 _ _ ?_
          (try clear hK32 K32)
          refine wp_cond_false rfl ?_
          refine wp_skip ?_
          refine hK31 _ _ ?_
          (try clear hK31 K31)
          refine wp_seq_k (fun K34 hK34 => ?_)
          have hcut : ∀ (d8 d13 d14 d15 d16 d17 d18 d19 d20 d21 d22 d53 d54 d55 d56 d57 d58 d59 d60 d61 d62 d63 d64 d65 d66 d67 d68 d69 d70 d71 d72 d73 d74 d75 d76 d77 d78 d79 d80 d81 d82 d83 d84 d85 d86 d87 d88 d89 d90 d91 d92 d93 d94 d95 d96 d97 d98 d99 d100 d101 d102 d103 d104 d105 d106 d107 d108 d109 d110 d111 d112 d113 d114 d115 d116 d117 d118 d119 d120 d121 d122 d123 d124 d125 d126 d127 d128 d129 d130 d131 d132 d133 d134 d135 d136 d137 d138 d139 d140 d141 d142 d143 d144 d145 d146 d147 d148 d149 d150 d151 d152 d153 d154 d155 d156 d157 d158 d159 d160 : Value) (p q : Nat) (ss : Ky) (PP : Pl) (l : Int) (wr : World) (hPP : POk PP) (hl0 : 0 ≤ l) (hl1 : l ≤ PP.ct) (hM : Ms w wr [blk (q) (rsc (ss) (PP) (l)) 36, sn p (ss) (PP) (l), blk (w2.heap.size) (plc (P)) 25, blk (w.heap.size) (kc (s)) 23]), K34 ⟨List.toArray (α := Value) (.agg (kc (s)).toArray :: .agg (plc (P)).toArray :: .slice (some ⟨b, o, none⟩) (n) (cap) :: .int .u8 (z) :: .pointer (some ⟨w.heap.size, 0, none⟩) :: .pointer (some ⟨w2.heap.size, 0, none⟩) :: undef :: undef :: d8 :: .pointer (some ⟨p, 0, none⟩) :: .int .i64 (0) :: .pointer (some ⟨q, 0, none⟩) :: .int .i64 (((j : Nat) : Int)) :: d13 :: d14 :: d15 :: d16 :: d17 :: d18 :: d19 :: d20 :: d21 :: d22 :: .bool true :: .bool false :: .tuple #[.pointer (some ⟨p9, 0, none⟩), .int .i64 (0)] :: .agg (kc (s)).toArray :: .agg (plc (P)).toArray :: .tuple #[.pointer (some ⟨p9, 0, none⟩), .int .i64 (0)] :: .pointer (some ⟨p9, 0, none⟩) :: .int .i64 (0) :: .agg (plc (P)).toArray :: .bool true :: .bool false :: undef :: undef :: undef :: undef :: undef :: undef :: .pointer (some ⟨p9, 0, none⟩) :: .bool false :: .bool false :: .int .i64 (0) :: .bool false :: .bool false :: .pointer (some ⟨w2.heap.size, 3, none⟩) :: .int .i64 ((P).ct) :: .bool false :: .agg (kc (s)).toArray :: .agg (plc (P)).toArray :: .agg (rsc (s) (P) (0)).toArray :: .pointer (some ⟨w12.heap.size, 0, none⟩) :: d53 :: d54 :: d55 :: d56 :: d57 :: d58 :: d59 :: d60 :: d61 :: d62 :: d63 :: d64 :: d65 :: d66 :: d67 :: d68 :: d69 :: d70 :: d71 :: d72 :: d73 :: d74 :: d75 :: d76 :: d77 :: d78 :: d79 :: d80 :: d81 :: d82 :: d83 :: d84 :: d85 :: d86 :: d87 :: d88 :: d89 :: d90 :: d91 :: d92 :: d93 :: d94 :: d95 :: d96 :: d97 :: d98 :: d99 :: d100 :: d101 :: d102 :: d103 :: d104 :: d105 :: d106 :: d107 :: d108 :: d109 :: d110 :: d111 :: d112 :: d113 :: d114 :: d115 :: d116 :: d117 :: d118 :: d119 :: d120 :: d121 :: d122 :: d123 :: d124 :: d125 :: d126 :: d127 :: d128 :: d129 :: d130 :: d131 :: d132 :: d133 :: d134 :: d135 :: d136 :: d137 :: d138 :: d139 :: d140 :: d141 :: d142 :: d143 :: d144 :: d145 :: d146 :: d147 :: d148 :: d149 :: d150 :: d151 :: d152 :: d153 :: d154 :: d155 :: d156 :: d157 :: d158 :: d159 :: d160 :: []), []⟩ wr := by
            clear hM
            intro d8 d13 d14 d15 d16 d17 d18 d19 d20 d21 d22 d53 d54 d55 d56 d57 d58 d59 d60 d61 d62 d63 d64 d65 d66 d67 d68 d69 d70 d71 d72 d73 d74 d75 d76 d77 d78 d79 d80 d81 d82 d83 d84 d85 d86 d87 d88 d89 d90 d91 d92 d93 d94 d95 d96 d97 d98 d99 d100 d101 d102 d103 d104 d105 d106 d107 d108 d109 d110 d111 d112 d113 d114 d115 d116 d117 d118 d119 d120 d121 d122 d123 d124 d125 d126 d127 d128 d129 d130 d131 d132 d133 d134 d135 d136 d137 d138 d139 d140 d141 d142 d143 d144 d145 d146 d147 d148 d149 d150 d151 d152 d153 d154 d155 d156 d157 d158 d159 d160 p q ss PP l wr hPP hl0 hl1 hM
            obtain ⟨i', x', g', t', k', E', l', hS⟩ := hsdA ss PP l
            have hK0 : Shut (ky ss PP.ct 0 = (kyk ss PP 0, 0)) := ⟨ky_kyk hPP (by omega) (by omega)⟩
            refine hK34 _ _ ?_
            clear hK34 K34
            refine wp_seq_k (fun K35 hK35 => ?_)
            refine wp_region_poset (by kernel_rfl) (by kernel_rfl) [11, 15, 16] [[], [], [], [], [], [], [], [], [], [], [], [], [0], [0], [0], [], [0, 1], [0, 1, 2]] [[0, 2], [2], [2], [2], [2], [0, 2], [2], [2], [2], [2], [0, 2], [2], [2], [2], [], [2], [], []] (by kernel_rfl) (Pm := Nat) (fun π => [.pointer (some ⟨p, 0, none⟩), .slice (some ⟨b, o, none⟩) (n) (cap), .int .i64 (((j : Nat) : Int)), .pointer (some ⟨b, o + j * 2, none⟩), .pointer (some ⟨b, o + j * 2, none⟩), .int .i64 (t), .slice (some ⟨b, o, none⟩) (n) (cap), .int .i64 (((j : Nat) : Int)), .pointer (some ⟨b, o + j * 2, none⟩), .pointer (some ⟨b, o + j * 2 + 1, none⟩), .string (y), .tuple #[.agg (pkc (i') (x') (g') (t') (k')).toArray, .int .i64 (E')], .tuple #[.agg (pkc (i') (x') (g') (t') (k')).toArray, .int .i64 (E')], .agg (pkc (i') (x') (g') (t') (k')).toArray, .int .i64 (E'), .pointer (some ⟨π, 0, none⟩), undef, .int .i64 (E')]) (fun _ => by rfl) (fun F_ π wx => (F_ = [false, false, false] ∧ Ms w wx [blk (q) (rsc (ss) (PP) (l)) 36, sn p (ss) (PP) (l), blk (w2.heap.size) (plc (P)) 25, blk (w.heap.size) (kc (s)) 23]) ∨ (F_ = [true, false, false] ∧ Ms w wx [sn p (ss) (PP) (l'), blk (q) (rsc (ss) (PP) (l)) 36, blk (w2.heap.size) (plc (P)) 25, blk (w.heap.size) (kc (s)) 23]) ∨ (F_ = [false, true, false] ∧ Ms w wx [blk (π) (pkc (0) (⟨#[]⟩) (⟨#[]⟩) (0) (zk)) 44, blk (q) (rsc (ss) (PP) (l)) 36, sn p (ss) (PP) (l), blk (w2.heap.size) (plc (P)) 25, blk (w.heap.size) (kc (s)) 23]) ∨ (F_ = [true, true, false] ∧ Ms w wx [blk (π) (pkc (0) (⟨#[]⟩) (⟨#[]⟩) (0) (zk)) 44, sn p (ss) (PP) (l'), blk (q) (rsc (ss) (PP) (l)) 36, blk (w2.heap.size) (plc (P)) 25, blk (w.heap.size) (kc (s)) 23]) ∨ (F_ = [true, true, true] ∧ Ms w wx [blk (π) (pkc (i') (x') (g') (t') (k')) 44, sn p (ss) (PP) (l'), blk (q) (rsc (ss) (PP) (l)) 36, blk (w2.heap.size) (plc (P)) 25, blk (w.heap.size) (kc (s)) 23])) (0) (.inl ⟨rfl, hM.drew⟩) ?_ ?_ ?_
            · intro j_ k_ o_ F_ hj_ ho_ hf_ hn_ π wx hM
              rcases j_ with _ | _ | _ | j_
              · obtain rfl := Option.some.inj hj_
                obtain rfl := Option.some.inj ho_
                simp only [fullL, Act.put, st_a, st_s, st_0]
                rcases hM with ⟨rfl, hM⟩ | ⟨rfl, hM⟩ | ⟨rfl, hM⟩ | ⟨rfl, hM⟩ | ⟨rfl, hM⟩
                · exact gw rfl (g_call 15 _ _ [.pointer (some ⟨p, 0, none⟩), .int .i64 (t), .string (y)] (kf15 _ _) rfl ((send_any (show Ms w wx [sn p (ss) (PP) (l), blk (q) (rsc (ss) (PP) (l)) 36, blk (w2.heap.size) (plc (P)) 25, blk (w.heap.size) (kc (s)) 23] from (hM.up 1 rfl)) hT (t) ht (y) (i') (x') (g') (t') (k') (E') (l') hS).mono (fun e w' ⟨h1_, h2_⟩ => ⟨_, h1_, ⟨(π), rfl, fun i h1 h2 => by rcases i with _ | _ | _ | _ | _ | _ | _ | _ | _ | _ | _ | _ | _ | _ | _ | _ | _ | _ | i <;> first | rfl | trivial | exact absurd rfl h2 | exact absurd (by decide) h1, .inr (.inl ⟨rfl, ((((h2_.up 3 rfl).up 3 rfl).up 3 rfl).up 3 rfl)⟩)⟩⟩)))
                · exact absurd hf_ (by decide)
                · exact gw rfl (g_call 15 _ _ [.pointer (some ⟨p, 0, none⟩), .int .i64 (t), .string (y)] (kf15 _ _) rfl ((send_any (show Ms w wx [sn p (ss) (PP) (l), blk (π) (pkc (0) (⟨#[]⟩) (⟨#[]⟩) (0) (zk)) 44, blk (q) (rsc (ss) (PP) (l)) 36, blk (w2.heap.size) (plc (P)) 25, blk (w.heap.size) (kc (s)) 23] from (hM.up 2 rfl)) hT (t) ht (y) (i') (x') (g') (t') (k') (E') (l') hS).mono (fun e w' ⟨h1_, h2_⟩ => ⟨_, h1_, ⟨(π), rfl, fun i h1 h2 => by rcases i with _ | _ | _ | _ | _ | _ | _ | _ | _ | _ | _ | _ | _ | _ | _ | _ | _ | _ | i <;> first | rfl | trivial | exact absurd rfl h2 | exact absurd (by decide) h1, .inr (.inr (.inr (.inl ⟨rfl, (((((h2_.up 4 rfl).up 4 rfl).up 4 rfl).up 3 rfl).up 4 rfl)⟩)))⟩⟩)))
                · exact absurd hf_ (by decide)
                · exact absurd hf_ (by decide)
              · obtain rfl := Option.some.inj hj_
                obtain rfl := Option.some.inj ho_
                simp only [fullL, Act.put, st_a, st_s, st_0]
                rcases hM with ⟨rfl, hM⟩ | ⟨rfl, hM⟩ | ⟨rfl, hM⟩ | ⟨rfl, hM⟩ | ⟨rfl, hM⟩
                · exact gw rfl (g_alloc 44 (pkc (0) (⟨#[]⟩) (⟨#[]⟩) (0) (zk)) zeroPk (fun w' t_ b_ => ⟨(wx.heap.size), rfl, fun i h1 h2 => by rcases i with _ | _ | _ | _ | _ | _ | _ | _ | _ | _ | _ | _ | _ | _ | _ | _ | _ | _ | i <;> first | rfl | trivial | exact absurd rfl h2 | exact absurd (by decide) h1, .inr (.inr (.inl ⟨rfl, ((((((hM.new t_ b_).up 4 rfl).up 4 rfl).up 4 rfl).up 4 rfl).up 4 rfl)⟩))⟩))
                · exact gw rfl (g_alloc 44 (pkc (0) (⟨#[]⟩) (⟨#[]⟩) (0) (zk)) zeroPk (fun w' t_ b_ => ⟨(wx.heap.size), rfl, fun i h1 h2 => by rcases i with _ | _ | _ | _ | _ | _ | _ | _ | _ | _ | _ | _ | _ | _ | _ | _ | _ | _ | i <;> first | rfl | trivial | exact absurd rfl h2 | exact absurd (by decide) h1, .inr (.inr (.inr (.inl ⟨rfl, ((((((hM.new t_ b_).up 4 rfl).up 4 rfl).up 4 rfl).up 4 rfl).up 4 rfl)⟩)))⟩))
                · exact absurd hf_ (by decide)
                · exact absurd hf_ (by decide)
                · exact absurd hf_ (by decide)
              · obtain rfl := Option.some.inj hj_
                obtain rfl := Option.some.inj ho_
                simp only [fullL, Act.put, st_a, st_s, st_0]
                rcases hM with ⟨rfl, hM⟩ | ⟨rfl, hM⟩ | ⟨rfl, hM⟩ | ⟨rfl, hM⟩ | ⟨rfl, hM⟩
                · exact absurd (hn_ 0 (by decide)) (by decide)
                · exact absurd (hn_ 1 (by decide)) (by decide)
                · exact absurd (hn_ 0 (by decide)) (by decide)
                · exact gw rfl (g_store_all 44 _ _ (π) (pkc (i') (x') (g') (t') (k')) _ 44 rfl rfl (hM.get 0 rfl) (szPk _ _ _ _ _) (kk2_len _ _ _ _ _ _ _ _ _ _) (one_pkc _ _ _ _ _) (fun w' t_ b_ => ⟨(π), rfl, fun i h1 h2 => by rcases i with _ | _ | _ | _ | _ | _ | _ | _ | _ | _ | _ | _ | _ | _ | _ | _ | _ | _ | i <;> first | rfl | trivial | exact absurd rfl h2 | exact absurd (by decide) h1, .inr (.inr (.inr (.inr (⟨rfl, ((((((hM.put 0 rfl t_ b_).up 4 rfl).up 4 rfl).up 4 rfl).up 4 rfl).up 4 rfl)⟩))))⟩))
                · exact absurd hf_ (by decide)
              · simp at hj_
            · intro i_ o_ F_ ho_ hi_ hd_ hb_ π wx hM
              simp only [fullL, Act.put, st_a, st_s, st_0]
              rcases i_ with _ | _ | _ | _ | _ | _ | _ | _ | _ | _ | _ | _ | _ | _ | _ | _ | _ | _ | i_
              · obtain rfl := Option.some.inj ho_
                exact gw rfl (g_move _ (.pointer (some ⟨p, 0, none⟩)) rfl ⟨rfl, hM⟩)
              · obtain rfl := Option.some.inj ho_
                exact gw rfl (g_move _ (.slice (some ⟨b, o, none⟩) (n) (cap)) rfl ⟨rfl, hM⟩)
              · obtain rfl := Option.some.inj ho_
                exact gw rfl (g_move _ (.int .i64 (((j : Nat) : Int))) rfl ⟨rfl, hM⟩)
              · obtain rfl := Option.some.inj ho_
                exact gw rfl (g_ix _ _ 26 39 2 Tryd.underlying26 szof39 b o n cap j (o + j * 2) _ rfl rfl rfl hjn rfl ⟨rfl, hM⟩)
              · obtain rfl := Option.some.inj ho_
                exact gw rfl (g_fa 39 _ b (o + j * 2) (o + j * 2) 0 rfl (faCa0 _ _ _) ⟨rfl, hM⟩)
              · obtain rfl := Option.some.inj ho_
                rcases hM with ⟨rfl, hM⟩ | ⟨rfl, hM⟩ | ⟨rfl, hM⟩ | ⟨rfl, hM⟩ | ⟨rfl, hM⟩
                · exact gw rfl (g_ld1 2 _ b (o + j * 2) _ rfl (ld2 _ _ _ _ (cell_on hM c0)) ⟨rfl, .inl ⟨rfl, hM⟩⟩)
                · exact absurd (hb_ 0 (by decide)) (by decide)
                · exact gw rfl (g_ld1 2 _ b (o + j * 2) _ rfl (ld2 _ _ _ _ (cell_on hM c0)) ⟨rfl, .inr (.inr (.inl ⟨rfl, hM⟩))⟩)
                · exact absurd (hb_ 0 (by decide)) (by decide)
                · exact absurd (hb_ 0 (by decide)) (by decide)
              · obtain rfl := Option.some.inj ho_
                exact gw rfl (g_move _ (.slice (some ⟨b, o, none⟩) (n) (cap)) rfl ⟨rfl, hM⟩)
              · obtain rfl := Option.some.inj ho_
                exact gw rfl (g_move _ (.int .i64 (((j : Nat) : Int))) rfl ⟨rfl, hM⟩)
              · obtain rfl := Option.some.inj ho_
                exact gw rfl (g_ix _ _ 26 39 2 Tryd.underlying26 szof39 b o n cap j (o + j * 2) _ rfl rfl rfl hjn rfl ⟨rfl, hM⟩)
              · obtain rfl := Option.some.inj ho_
                exact gw rfl (g_fa 39 _ b (o + j * 2) (o + j * 2 + 1) 1 rfl (faCa1 _ _ _) ⟨rfl, hM⟩)
              · obtain rfl := Option.some.inj ho_
                rcases hM with ⟨rfl, hM⟩ | ⟨rfl, hM⟩ | ⟨rfl, hM⟩ | ⟨rfl, hM⟩ | ⟨rfl, hM⟩
                · exact gw rfl (g_ld1 9 _ b (o + j * 2 + 1) _ rfl (ld9 _ _ _ _ (cell_on hM c1)) ⟨rfl, .inl ⟨rfl, hM⟩⟩)
                · exact absurd (hb_ 0 (by decide)) (by decide)
                · exact gw rfl (g_ld1 9 _ b (o + j * 2 + 1) _ rfl (ld9 _ _ _ _ (cell_on hM c1)) ⟨rfl, .inr (.inr (.inl ⟨rfl, hM⟩))⟩)
                · exact absurd (hb_ 0 (by decide)) (by decide)
                · exact absurd (hb_ 0 (by decide)) (by decide)
              · exact absurd (by decide) hi_
              · obtain rfl := Option.some.inj ho_
                exact gw rfl (g_move _ (.tuple #[.agg (pkc (i') (x') (g') (t') (k')).toArray, .int .i64 (E')]) rfl ⟨rfl, hM⟩)
              · obtain rfl := Option.some.inj ho_
                exact gw rfl (g_extract _ #[.agg (pkc (i') (x') (g') (t') (k')).toArray, .int .i64 (E')] 0 (.agg (pkc (i') (x') (g') (t') (k')).toArray) rfl rfl ⟨rfl, hM⟩)
              · obtain rfl := Option.some.inj ho_
                exact gw rfl (g_extract _ #[.agg (pkc (i') (x') (g') (t') (k')).toArray, .int .i64 (E')] 1 (.int .i64 (E')) rfl rfl ⟨rfl, hM⟩)
              · exact absurd (by decide) hi_
              · exact absurd (by decide) hi_
              · obtain rfl := Option.some.inj ho_
                exact gw rfl (g_assign _ (.int .i64 (E')) rfl ⟨rfl, hM⟩)
              · simp at ho_
            · simp only [fullL, Act.put, st_a, st_s, st_0]
              rintro F_ p37 w36 hF_ hM
              subst hF_
              rcases hM with ⟨h_, hM⟩ | ⟨h_, hM⟩ | ⟨h_, hM⟩ | ⟨h_, hM⟩ | ⟨h_, hM⟩
              · exact absurd h_ (by decide)
              · exact absurd h_ (by decide)
              · exact absurd h_ (by decide)
              · exact absurd h_ (by decide)
              clear h_
              replace hM : Ms w w36 [blk (p37) (pkc (i') (x') (g') (t') (k')) 44, sn p (ss) (PP) (l'), blk (q) (rsc (ss) (PP) (l)) 36, blk (w2.heap.size) (plc (P)) 25, blk (w.heap.size) (kc (s)) 23] := hM
              refine hK35 _ _ ?_
              (try clear hK35 K35)
              refine wp_seq_k (fun K38 hK38 => ?_)
              refine wp_region_poset (by kernel_rfl) (by kernel_rfl) [11, 15, 16] [[], [], [], [], [], [], [], [], [], [], [], [], [0], [0], [0], [], [0, 1], [0, 1, 2]] [[0, 2], [2], [2], [2], [2], [0, 2], [2], [2], [2], [2], [0, 2], [2], [2], [2], [], [2], [], []] (by kernel_rfl) (Pm := Nat) (fun π => [.pointer (some ⟨q, 0, none⟩), .slice (some ⟨b, o, none⟩) (n) (cap), .int .i64 (((j : Nat) : Int)), .pointer (some ⟨b, o + j * 2, none⟩), .pointer (some ⟨b, o + j * 2, none⟩), .int .i64 (t), .slice (some ⟨b, o, none⟩) (n) (cap), .int .i64 (((j : Nat) : Int)), .pointer (some ⟨b, o + j * 2, none⟩), .pointer (some ⟨b, o + j * 2 + 1, none⟩), .string (y), .tuple #[.agg (pkc (i') (x') (g') (t') (k')).toArray, .int .i64 (E')], .tuple #[.agg (pkc (i') (x') (g') (t') (k')).toArray, .int .i64 (E')], .agg (pkc (i') (x') (g') (t') (k')).toArray, .int .i64 (E'), .pointer (some ⟨π, 0, none⟩), undef, .int .i64 (E')]) (fun _ => by rfl) (fun F_ π wx => (F_ = [false, false, false] ∧ Ms w wx [blk (p37) (pkc (i') (x') (g') (t') (k')) 44, sn p (ss) (PP) (l'), blk (q) (rsc (ss) (PP) (l)) 36, blk (w2.heap.size) (plc (P)) 25, blk (w.heap.size) (kc (s)) 23]) ∨ (F_ = [true, false, false] ∧ Ms w wx [blk (q) (rsc (ss) (PP) (l')) 36, blk (p37) (pkc (i') (x') (g') (t') (k')) 44, sn p (ss) (PP) (l'), blk (w2.heap.size) (plc (P)) 25, blk (w.heap.size) (kc (s)) 23]) ∨ (F_ = [false, true, false] ∧ Ms w wx [blk (π) (pkc (0) (⟨#[]⟩) (⟨#[]⟩) (0) (zk)) 44, blk (p37) (pkc (i') (x') (g') (t') (k')) 44, sn p (ss) (PP) (l'), blk (q) (rsc (ss) (PP) (l)) 36, blk (w2.heap.size) (plc (P)) 25, blk (w.heap.size) (kc (s)) 23]) ∨ (F_ = [true, true, false] ∧ Ms w wx [blk (π) (pkc (0) (⟨#[]⟩) (⟨#[]⟩) (0) (zk)) 44, blk (q) (rsc (ss) (PP) (l')) 36, blk (p37) (pkc (i') (x') (g') (t') (k')) 44, sn p (ss) (PP) (l'), blk (w2.heap.size) (plc (P)) 25, blk (w.heap.size) (kc (s)) 23]) ∨ (F_ = [true, true, true] ∧ Ms w wx [blk (π) (pkc (i') (x') (g') (t') (k')) 44, blk (q) (rsc (ss) (PP) (l')) 36, blk (p37) (pkc (i') (x') (g') (t') (k')) 44, sn p (ss) (PP) (l'), blk (w2.heap.size) (plc (P)) 25, blk (w.heap.size) (kc (s)) 23])) (0) (.inl ⟨rfl, hM.drew⟩) ?_ ?_ ?_
              · intro j_ k_ o_ F_ hj_ ho_ hf_ hn_ π wx hM
                rcases j_ with _ | _ | _ | j_
                · obtain rfl := Option.some.inj hj_
                  obtain rfl := Option.some.inj ho_
                  simp only [fullL, Act.put, st_a, st_s, st_0]
                  rcases hM with ⟨rfl, hM⟩ | ⟨rfl, hM⟩ | ⟨rfl, hM⟩ | ⟨rfl, hM⟩ | ⟨rfl, hM⟩
                  · exact gw rfl (g_call 16 _ _ [.pointer (some ⟨q, 0, none⟩), .int .i64 (t), .string (y)] (kf16 _ _) rfl ((rsend_any (show Ms w wx [blk (q) (rsc (ss) (PP) (l)) 36, blk (p37) (pkc (i') (x') (g') (t') (k')) 44, sn p (ss) (PP) (l'), blk (w2.heap.size) (plc (P)) 25, blk (w.heap.size) (kc (s)) 23] from (hM.up 2 rfl)) hPP hl0 hl1 (t) (y) (i') (x') (g') (t') (k') (E') (l') hS).mono (fun e w' ⟨h1_, h2_⟩ => ⟨_, h1_, ⟨(π), rfl, fun i h1 h2 => by rcases i with _ | _ | _ | _ | _ | _ | _ | _ | _ | _ | _ | _ | _ | _ | _ | _ | _ | _ | i <;> first | rfl | trivial | exact absurd rfl h2 | exact absurd (by decide) h1, .inr (.inl ⟨rfl, (((((h2_.up 4 rfl).up 4 rfl).up 4 rfl).up 4 rfl).up 4 rfl)⟩)⟩⟩)))
                  · exact absurd hf_ (by decide)
                  · exact gw rfl (g_call 16 _ _ [.pointer (some ⟨q, 0, none⟩), .int .i64 (t), .string (y)] (kf16 _ _) rfl ((rsend_any (show Ms w wx [blk (q) (rsc (ss) (PP) (l)) 36, blk (π) (pkc (0) (⟨#[]⟩) (⟨#[]⟩) (0) (zk)) 44, blk (p37) (pkc (i') (x') (g') (t') (k')) 44, sn p (ss) (PP) (l'), blk (w2.heap.size) (plc (P)) 25, blk (w.heap.size) (kc (s)) 23] from (hM.up 3 rfl)) hPP hl0 hl1 (t) (y) (i') (x') (g') (t') (k') (E') (l') hS).mono (fun e w' ⟨h1_, h2_⟩ => ⟨_, h1_, ⟨(π), rfl, fun i h1 h2 => by rcases i with _ | _ | _ | _ | _ | _ | _ | _ | _ | _ | _ | _ | _ | _ | _ | _ | _ | _ | i <;> first | rfl | trivial | exact absurd rfl h2 | exact absurd (by decide) h1, .inr (.inr (.inr (.inl ⟨rfl, ((((((h2_.up 5 rfl).up 5 rfl).up 5 rfl).up 5 rfl).up 4 rfl).up 5 rfl)⟩)))⟩⟩)))
                  · exact absurd hf_ (by decide)
                  · exact absurd hf_ (by decide)
                · obtain rfl := Option.some.inj hj_
                  obtain rfl := Option.some.inj ho_
                  simp only [fullL, Act.put, st_a, st_s, st_0]
                  rcases hM with ⟨rfl, hM⟩ | ⟨rfl, hM⟩ | ⟨rfl, hM⟩ | ⟨rfl, hM⟩ | ⟨rfl, hM⟩
                  · exact gw rfl (g_alloc 44 (pkc (0) (⟨#[]⟩) (⟨#[]⟩) (0) (zk)) zeroPk (fun w' t_ b_ => ⟨(wx.heap.size), rfl, fun i h1 h2 => by rcases i with _ | _ | _ | _ | _ | _ | _ | _ | _ | _ | _ | _ | _ | _ | _ | _ | _ | _ | i <;> first | rfl | trivial | exact absurd rfl h2 | exact absurd (by decide) h1, .inr (.inr (.inl ⟨rfl, (((((((hM.new t_ b_).up 5 rfl).up 5 rfl).up 5 rfl).up 5 rfl).up 5 rfl).up 5 rfl)⟩))⟩))
                  · exact gw rfl (g_alloc 44 (pkc (0) (⟨#[]⟩) (⟨#[]⟩) (0) (zk)) zeroPk (fun w' t_ b_ => ⟨(wx.heap.size), rfl, fun i h1 h2 => by rcases i with _ | _ | _ | _ | _ | _ | _ | _ | _ | _ | _ | _ | _ | _ | _ | _ | _ | _ | i <;> first | rfl | trivial | exact absurd rfl h2 | exact absurd (by decide) h1, .inr (.inr (.inr (.inl ⟨rfl, (((((((hM.new t_ b_).up 5 rfl).up 5 rfl).up 5 rfl).up 5 rfl).up 5 rfl).up 5 rfl)⟩)))⟩))
                  · exact absurd hf_ (by decide)
                  · exact absurd hf_ (by decide)
                  · exact absurd hf_ (by decide)
                · obtain rfl := Option.some.inj hj_
                  obtain rfl := Option.some.inj ho_
                  simp only [fullL, Act.put, st_a, st_s, st_0]
                  rcases hM with ⟨rfl, hM⟩ | ⟨rfl, hM⟩ | ⟨rfl, hM⟩ | ⟨rfl, hM⟩ | ⟨rfl, hM⟩
                  · exact absurd (hn_ 0 (by decide)) (by decide)
                  · exact absurd (hn_ 1 (by decide)) (by decide)
                  · exact absurd (hn_ 0 (by decide)) (by decide)
                  · exact gw rfl (g_store_all 44 _ _ (π) (pkc (i') (x') (g') (t') (k')) _ 44 rfl rfl (hM.get 0 rfl) (szPk _ _ _ _ _) (kk2_len _ _ _ _ _ _ _ _ _ _) (one_pkc _ _ _ _ _) (fun w' t_ b_ => ⟨(π), rfl, fun i h1 h2 => by rcases i with _ | _ | _ | _ | _ | _ | _ | _ | _ | _ | _ | _ | _ | _ | _ | _ | _ | _ | i <;> first | rfl | trivial | exact absurd rfl h2 | exact absurd (by decide) h1, .inr (.inr (.inr (.inr (⟨rfl, (((((((hM.put 0 rfl t_ b_).up 5 rfl).up 5 rfl).up 5 rfl).up 5 rfl).up 5 rfl).up 5 rfl)⟩))))⟩))
                  · exact absurd hf_ (by decide)
                · simp at hj_
              · intro i_ o_ F_ ho_ hi_ hd_ hb_ π wx hM
                simp only [fullL, Act.put, st_a, st_s, st_0]
                rcases i_ with _ | _ | _ | _ | _ | _ | _ | _ | _ | _ | _ | _ | _ | _ | _ | _ | _ | _ | i_
                · obtain rfl := Option.some.inj ho_
                  exact gw rfl (g_move _ (.pointer (some ⟨q, 0, none⟩)) rfl ⟨rfl, hM⟩)
                · obtain rfl := Option.some.inj ho_
                  exact gw rfl (g_move _ (.slice (some ⟨b, o, none⟩) (n) (cap)) rfl ⟨rfl, hM⟩)
                · obtain rfl := Option.some.inj ho_
                  exact gw rfl (g_move _ (.int .i64 (((j : Nat) : Int))) rfl ⟨rfl, hM⟩)
                · obtain rfl := Option.some.inj ho_
                  exact gw rfl (g_ix _ _ 26 39 2 Tryd.underlying26 szof39 b o n cap j (o + j * 2) _ rfl rfl rfl hjn rfl ⟨rfl, hM⟩)
                · obtain rfl := Option.some.inj ho_
                  exact gw rfl (g_fa 39 _ b (o + j * 2) (o + j * 2) 0 rfl (faCa0 _ _ _) ⟨rfl, hM⟩)
                · obtain rfl := Option.some.inj ho_
                  rcases hM with ⟨rfl, hM⟩ | ⟨rfl, hM⟩ | ⟨rfl, hM⟩ | ⟨rfl, hM⟩ | ⟨rfl, hM⟩
                  · exact gw rfl (g_ld1 2 _ b (o + j * 2) _ rfl (ld2 _ _ _ _ (cell_on hM c0)) ⟨rfl, .inl ⟨rfl, hM⟩⟩)
                  · exact absurd (hb_ 0 (by decide)) (by decide)
                  · exact gw rfl (g_ld1 2 _ b (o + j * 2) _ rfl (ld2 _ _ _ _ (cell_on hM c0)) ⟨rfl, .inr (.inr (.inl ⟨rfl, hM⟩))⟩)
                  · exact absurd (hb_ 0 (by decide)) (by decide)
                  · exact absurd (hb_ 0 (by decide)) (by decide)
                · obtain rfl := Option.some.inj ho_
                  exact gw rfl (g_move _ (.slice (some ⟨b, o, none⟩) (n) (cap)) rfl ⟨rfl, hM⟩)
                · obtain rfl := Option.some.inj ho_
                  exact gw rfl (g_move _ (.int .i64 (((j : Nat) : Int))) rfl ⟨rfl, hM⟩)
                · obtain rfl := Option.some.inj ho_
                  exact gw rfl (g_ix _ _ 26 39 2 Tryd.underlying26 szof39 b o n cap j (o + j * 2) _ rfl rfl rfl hjn rfl ⟨rfl, hM⟩)
                · obtain rfl := Option.some.inj ho_
                  exact gw rfl (g_fa 39 _ b (o + j * 2) (o + j * 2 + 1) 1 rfl (faCa1 _ _ _) ⟨rfl, hM⟩)
                · obtain rfl := Option.some.inj ho_
                  rcases hM with ⟨rfl, hM⟩ | ⟨rfl, hM⟩ | ⟨rfl, hM⟩ | ⟨rfl, hM⟩ | ⟨rfl, hM⟩
                  · exact gw rfl (g_ld1 9 _ b (o + j * 2 + 1) _ rfl (ld9 _ _ _ _ (cell_on hM c1)) ⟨rfl, .inl ⟨rfl, hM⟩⟩)
                  · exact absurd (hb_ 0 (by decide)) (by decide)
                  · exact gw rfl (g_ld1 9 _ b (o + j * 2 + 1) _ rfl (ld9 _ _ _ _ (cell_on hM c1)) ⟨rfl, .inr (.inr (.inl ⟨rfl, hM⟩))⟩)
                  · exact absurd (hb_ 0 (by decide)) (by decide)
                  · exact absurd (hb_ 0 (by decide)) (by decide)
                · exact absurd (by decide) hi_
                · obtain rfl := Option.some.inj ho_
                  exact gw rfl (g_move _ (.tuple #[.agg (pkc (i') (x') (g') (t') (k')).toArray, .int .i64 (E')]) rfl ⟨rfl, hM⟩)
                · obtain rfl := Option.some.inj ho_
                  exact gw rfl (g_extract _ #[.agg (pkc (i') (x') (g') (t') (k')).toArray, .int .i64 (E')] 0 (.agg (pkc (i') (x') (g') (t') (k')).toArray) rfl rfl ⟨rfl, hM⟩)
                · obtain rfl := Option.some.inj ho_
                  exact gw rfl (g_extract _ #[.agg (pkc (i') (x') (g') (t') (k')).toArray, .int .i64 (E')] 1 (.int .i64 (E')) rfl rfl ⟨rfl, hM⟩)
                · exact absurd (by decide) hi_
                · exact absurd (by decide) hi_
                · obtain rfl := Option.some.inj ho_
                  exact gw rfl (g_assign _ (.int .i64 (E')) rfl ⟨rfl, hM⟩)
                · simp at ho_
              · simp only [fullL, Act.put, st_a, st_s, st_0]
                rintro F_ p40 w39 hF_ hM
                subst hF_
                rcases hM with ⟨h_, hM⟩ | ⟨h_, hM⟩ | ⟨h_, hM⟩ | ⟨h_, hM⟩ | ⟨h_, hM⟩
                · exact absurd h_ (by decide)
                · exact absurd h_ (by decide)
                · exact absurd h_ (by decide)
                · exact absurd h_ (by decide)
                clear h_
                replace hM : Ms w w39 [blk (p40) (pkc (i') (x') (g') (t') (k')) 44, blk (q) (rsc (ss) (PP) (l')) 36, blk (p37) (pkc (i') (x') (g') (t') (k')) 44, sn p (ss) (PP) (l'), blk (w2.heap.size) (plc (P)) 25, blk (w.heap.size) (kc (s)) 23] := hM
                refine hK38 _ _ ?_
                (try clear hK38 K38)
                refine wp_seq_k (fun K41 hK41 => ?_)
                refine wp_seq_k (fun K42 hK42 => ?_)
                refine wp_region_fixed (by kernel_rfl) (by kernel_rfl) [.agg (pkc (i') (x') (g') (t') (k')).toArray, .agg (pkc (i') (x') (g') (t') (k')).toArray, .bool false, .bool false, .int .i64 (E'), .int .i64 (E'), .bool false, .bool false, .bool false, .pointer (some ⟨p, 0, none⟩), .int .i64 (l'), .pointer (some ⟨q, 0, none⟩), .pointer (some ⟨q, 0, none⟩), .pointer (some ⟨q, 36, none⟩), .int .i64 (l'), .bool false, .bool false] (by rfl) (fun wx => Ms w wx [blk (p40) (pkc (i') (x') (g') (t') (k')) 44, blk (q) (rsc (ss) (PP) (l')) 36, blk (p37) (pkc (i') (x') (g') (t') (k')) 44, sn p (ss) (PP) (l'), blk (w2.heap.size) (plc (P)) 25, blk (w.heap.size) (kc (s)) 23]) hM.drew ?_ ?_
                · simp only [fullL, Act.put, st_a, st_s, st_0]
                  refine ⟨?_, ?_, ?_, ?_, ?_, ?_, ?_, ?_, ?_, ?_, ?_, ?_, ?_, ?_, ?_, ?_, ?_, trivial⟩
                  · exact fun wx hM => gw rfl (g_load_all 44 _ (p37) (pkc (i') (x') (g') (t') (k')) 44 _ rfl (hM.get 2 rfl) Tryd.underlying44 rfl (szPk _ _ _ _ _) ⟨rfl, hM⟩)
                  · exact fun wx hM => gw rfl (g_load_all 44 _ (p40) (pkc (i') (x') (g') (t') (k')) 44 _ rfl (hM.get 0 rfl) Tryd.underlying44 rfl (szPk _ _ _ _ _) ⟨rfl, hM⟩)
                  · exact fun wx hM => gw rfl (g_pkN _ _ (i') (x') (g') (t') (k') rfl rfl ⟨rfl, hM⟩)
                  · exact fun wx hM => gw rfl (g_move _ (.bool false) rfl ⟨rfl, hM⟩)
                  · exact fun wx hM => gw rfl (g_move _ (.int .i64 (E')) rfl ⟨rfl, hM⟩)
                  · exact fun wx hM => gw rfl (g_move _ (.int .i64 (E')) rfl ⟨rfl, hM⟩)
                  · exact fun wx hM => gw rfl (g_ine 29 _ _ .i64 (E') (E') false rfl rfl (decide_eq_false (fun h => h rfl)) ⟨rfl, hM⟩)
                  · exact fun wx hM => gw rfl (g_pickf _ _ _ (.bool false) rfl rfl ⟨rfl, hM⟩)
                  · exact fun wx hM => gw rfl (g_move _ (.bool false) rfl ⟨rfl, hM⟩)
                  · exact fun wx hM => gw rfl (g_move _ (.pointer (some ⟨p, 0, none⟩)) rfl ⟨rfl, hM⟩)
                  · exact fun wx hM => gw rfl (g_call 17 _ _ [.pointer (some ⟨p, 0, none⟩)] (kf17 _ _) rfl ((last_any (show Ms w wx [sn p (ss) (PP) (l'), blk (p40) (pkc (i') (x') (g') (t') (k')) 44, blk (q) (rsc (ss) (PP) (l')) 36, blk (p37) (pkc (i') (x') (g') (t') (k')) 44, blk (w2.heap.size) (plc (P)) 25, blk (w.heap.size) (kc (s)) 23] from (hM.up 3 rfl))).mono (fun _ _ ⟨h1_, h2_⟩ => ⟨_, h1_, rfl, hM.call h2_⟩)))
                  · exact fun wx hM => gw rfl (g_move _ (.pointer (some ⟨q, 0, none⟩)) rfl ⟨rfl, hM⟩)
                  · exact fun wx hM => gw rfl (g_nil _ ⟨q, 0, none⟩ rfl ⟨rfl, hM⟩)
                  · exact fun wx hM => gw rfl (g_fa 36 _ (q) (0) (36) 2 rfl (faRs2 _ _ _) ⟨rfl, hM⟩)
                  · exact fun wx hM => gw rfl (g_ld1 3 _ (q) (36) _ rfl (ld3 _ _ _ _ ((hM.get 1 rfl).cell (36) _ (rs_last _ _ _))) ⟨rfl, hM⟩)
                  · exact fun wx hM => gw rfl (g_ine 3 _ _ .i64 (l') (l') false rfl rfl (decide_eq_false (fun h => h rfl)) ⟨rfl, hM⟩)
                  · exact fun wx hM => gw rfl (g_pickf _ _ _ (.bool false) rfl rfl ⟨rfl, hM⟩)
                · simp only [fullL, Act.put, st_a, st_s, st_0]
                  intro w43 hM
                  refine hK42 _ _ ?_
                  (try clear hK42 K42)
                  refine wp_cond_false rfl ?_
                  refine wp_skip ?_
                  refine hK41 _ _ ?_
                  (try clear hK41 K41)
                  refine wp_seq_k (fun K44 hK44 => ?_)
                  refine wp_region_steps (by kernel_rfl) (by kernel_rfl) [13, 14] [0, 0, 0, 0, 0, 0, 0, 0, 0, 0, 0, 0, 0, 0, 1, 2] [1, 1, 1, 1, 1, 1, 1, 1, 1, 1, 1, 1, 2, 1, 2, 2] (by kernel_rfl) (Pm := Nat) (fun π => [.pointer (some ⟨q, 0, none⟩), .pointer (some ⟨q, 0, none⟩), .pointer (some ⟨q, 0, none⟩), .agg (kc (ss)).toArray, .pointer (some ⟨q, 0, none⟩), .pointer (some ⟨q, 0, none⟩), .pointer (some ⟨q, 32, none⟩), .pointer (some ⟨q, 32 + 3, none⟩), .int .i64 ((PP).ct), .tuple #[.agg (kc (kyk ss PP 0)).toArray, .int .i64 (0)], .tuple #[.agg (kc (kyk ss PP 0)).toArray, .int .i64 (0)], .agg (kc (kyk ss PP 0)).toArray, .int .i64 (0), .pointer (some ⟨π, 0, none⟩), undef, .int .i64 (0)]) (fun _ => by rfl) (fun j_ π wx => match j_ with | 0 => Ms w wx [blk (p40) (pkc (i') (x') (g') (t') (k')) 44, blk (q) (rsc (ss) (PP) (l')) 36, blk (p37) (pkc (i') (x') (g') (t') (k')) 44, sn p (ss) (PP) (l'), blk (w2.heap.size) (plc (P)) 25, blk (w.heap.size) (kc (s)) 23] | 1 => Ms w wx [blk (π) (kc (zk)) 23, blk (p40) (pkc (i') (x') (g') (t') (k')) 44, blk (q) (rsc (ss) (PP) (l')) 36, blk (p37) (pkc (i') (x') (g') (t') (k')) 44, sn p (ss) (PP) (l'), blk (w2.heap.size) (plc (P)) 25, blk (w.heap.size) (kc (s)) 23] | _ => Ms w wx [blk (π) (kc (kyk ss PP 0)) 23, blk (p40) (pkc (i') (x') (g') (t') (k')) 44, blk (q) (rsc (ss) (PP) (l')) 36, blk (p37) (pkc (i') (x') (g') (t') (k')) 44, sn p (ss) (PP) (l'), blk (w2.heap.size) (plc (P)) 25, blk (w.heap.size) (kc (s)) 23]) (0) hM.drew ?_ ?_ ?_
                  · intro j_ k_ o_ hj_ ho_ π wx hM
                    rcases j_ with _ | _ | j_
                    · obtain rfl := Option.some.inj hj_
                      obtain rfl := Option.some.inj ho_
                      simp only [fullL, Act.put, st_a, st_s, st_0]
                      replace hM : Ms w wx [blk (p40) (pkc (i') (x') (g') (t') (k')) 44, blk (q) (rsc (ss) (PP) (l')) 36, blk (p37) (pkc (i') (x') (g') (t') (k')) 44, sn p (ss) (PP) (l'), blk (w2.heap.size) (plc (P)) 25, blk (w.heap.size) (kc (s)) 23] := hM
                      exact gw rfl (g_alloc 23 (kc (zk)) zeroK (fun w' t_ b_ => ⟨(wx.heap.size), rfl, fun i h1 h2 => by rcases i with _ | _ | _ | _ | _ | _ | _ | _ | _ | _ | _ | _ | _ | _ | _ | _ | i <;> first | rfl | trivial | exact absurd rfl h2 | exact absurd h1 (by decide), hM.new t_ b_⟩))
                    · obtain rfl := Option.some.inj hj_
                      obtain rfl := Option.some.inj ho_
                      simp only [fullL, Act.put, st_a, st_s, st_0]
                      replace hM : Ms w wx [blk (π) (kc (zk)) 23, blk (p40) (pkc (i') (x') (g') (t') (k')) 44, blk (q) (rsc (ss) (PP) (l')) 36, blk (p37) (pkc (i') (x') (g') (t') (k')) 44, sn p (ss) (PP) (l'), blk (w2.heap.size) (plc (P)) 25, blk (w.heap.size) (kc (s)) 23] := hM
                      exact gw rfl (g_store_all 23 _ _ (π) (kc (kyk ss PP 0)) _ 23 rfl rfl (hM.get 0 rfl) (szK _) (kk_len _ _) (one_kc _) (fun w' t_ b_ => ⟨(π), rfl, fun i h1 h2 => by rcases i with _ | _ | _ | _ | _ | _ | _ | _ | _ | _ | _ | _ | _ | _ | _ | _ | i <;> first | rfl | trivial | exact absurd rfl h2 | exact absurd h1 (by decide), hM.put 0 rfl t_ b_⟩))
                    · simp at hj_
                  · intro i_ o_ ho_ hi_ j_ hd_ hh_ hj_ π wx hM
                    simp only [fullL, Act.put, st_a, st_s, st_0]
                    rcases i_ with _ | _ | _ | _ | _ | _ | _ | _ | _ | _ | _ | _ | _ | _ | _ | _ | i_
                    · obtain rfl := Option.some.inj ho_
                      exact gw rfl (g_move _ (.pointer (some ⟨q, 0, none⟩)) rfl ⟨rfl, hM⟩)
                    · obtain rfl := Option.some.inj ho_
                      exact gw rfl (g_nil _ ⟨q, 0, none⟩ rfl ⟨rfl, hM⟩)
                    · obtain rfl := Option.some.inj ho_
                      exact gw rfl (g_fa 36 _ (q) (0) (0) 0 rfl (faRs0 _ _ _) ⟨rfl, hM⟩)
                    · obtain rfl := Option.some.inj ho_
                      rcases j_ with _ | _ | _ | j_
                      · replace hM : Ms w wx [blk (p40) (pkc (i') (x') (g') (t') (k')) 44, blk (q) (rsc (ss) (PP) (l')) 36, blk (p37) (pkc (i') (x') (g') (t') (k')) 44, sn p (ss) (PP) (l'), blk (w2.heap.size) (plc (P)) 25, blk (w.heap.size) (kc (s)) 23] := hM
                        exact gw rfl (g_load 23 _ (q) (0) 32 _ 36 _ rfl (hM.get 1 rfl) Tryd.underlying23 rfl size23 (by rw [rsc_length]; decide) (kc (ss)) (rs_seed _ _ _) ⟨rfl, hM⟩)
                      · replace hM : Ms w wx [blk (π) (kc (zk)) 23, blk (p40) (pkc (i') (x') (g') (t') (k')) 44, blk (q) (rsc (ss) (PP) (l')) 36, blk (p37) (pkc (i') (x') (g') (t') (k')) 44, sn p (ss) (PP) (l'), blk (w2.heap.size) (plc (P)) 25, blk (w.heap.size) (kc (s)) 23] := hM
                        exact gw rfl (g_load 23 _ (q) (0) 32 _ 36 _ rfl (hM.get 2 rfl) Tryd.underlying23 rfl size23 (by rw [rsc_length]; decide) (kc (ss)) (rs_seed _ _ _) ⟨rfl, hM⟩)
                      · exact absurd hh_ (by decide)
                      · exact absurd hj_ (by simp)
                    · obtain rfl := Option.some.inj ho_
                      exact gw rfl (g_move _ (.pointer (some ⟨q, 0, none⟩)) rfl ⟨rfl, hM⟩)
                    · obtain rfl := Option.some.inj ho_
                      exact gw rfl (g_nil _ ⟨q, 0, none⟩ rfl ⟨rfl, hM⟩)
                    · obtain rfl := Option.some.inj ho_
                      exact gw rfl (g_fa 36 _ (q) (0) (32) 1 rfl (faRs1 _ _ _) ⟨rfl, hM⟩)
                    · obtain rfl := Option.some.inj ho_
                      exact gw rfl (g_fa 34 _ (q) (32) (32 + 3) 3 rfl (faRp3 _ _ _) ⟨rfl, hM⟩)
                    · obtain rfl := Option.some.inj ho_
                      rcases j_ with _ | _ | _ | j_
                      · replace hM : Ms w wx [blk (p40) (pkc (i') (x') (g') (t') (k')) 44, blk (q) (rsc (ss) (PP) (l')) 36, blk (p37) (pkc (i') (x') (g') (t') (k')) 44, sn p (ss) (PP) (l'), blk (w2.heap.size) (plc (P)) 25, blk (w.heap.size) (kc (s)) 23] := hM
                        exact gw rfl (g_ld1 3 _ (q) (32 + 3) _ rfl (ld3 _ _ _ _ ((hM.get 1 rfl).cell (32 + 3) _ (rs_ct _ _ _))) ⟨rfl, hM⟩)
                      · replace hM : Ms w wx [blk (π) (kc (zk)) 23, blk (p40) (pkc (i') (x') (g') (t') (k')) 44, blk (q) (rsc (ss) (PP) (l')) 36, blk (p37) (pkc (i') (x') (g') (t') (k')) 44, sn p (ss) (PP) (l'), blk (w2.heap.size) (plc (P)) 25, blk (w.heap.size) (kc (s)) 23] := hM
                        exact gw rfl (g_ld1 3 _ (q) (32 + 3) _ rfl (ld3 _ _ _ _ ((hM.get 2 rfl).cell (32 + 3) _ (rs_ct _ _ _))) ⟨rfl, hM⟩)
                      · exact absurd hh_ (by decide)
                      · exact absurd hj_ (by simp)
                    · obtain rfl := Option.some.inj ho_
                      rcases j_ with _ | _ | _ | j_
                      · replace hM : Ms w wx [blk (p40) (pkc (i') (x') (g') (t') (k')) 44, blk (q) (rsc (ss) (PP) (l')) 36, blk (p37) (pkc (i') (x') (g') (t') (k')) 44, sn p (ss) (PP) (l'), blk (w2.heap.size) (plc (P)) 25, blk (w.heap.size) (kc (s)) 23] := hM
                        exact gw rfl (g_call 18 _ _ [.agg (kc (ss)).toArray, .int .i64 ((PP).ct), .int .i64 (0)] (kf18 _ _) rfl ((rckey_any (ss) (PP.ct) (0) wx (kyk ss PP 0) (0) hK0).mono (fun _ _ ⟨h1_, h2_⟩ => ⟨_, h1_, rfl, hM.call h2_⟩)))
                      · replace hM : Ms w wx [blk (π) (kc (zk)) 23, blk (p40) (pkc (i') (x') (g') (t') (k')) 44, blk (q) (rsc (ss) (PP) (l')) 36, blk (p37) (pkc (i') (x') (g') (t') (k')) 44, sn p (ss) (PP) (l'), blk (w2.heap.size) (plc (P)) 25, blk (w.heap.size) (kc (s)) 23] := hM
                        exact gw rfl (g_call 18 _ _ [.agg (kc (ss)).toArray, .int .i64 ((PP).ct), .int .i64 (0)] (kf18 _ _) rfl ((rckey_any (ss) (PP.ct) (0) wx (kyk ss PP 0) (0) hK0).mono (fun _ _ ⟨h1_, h2_⟩ => ⟨_, h1_, rfl, hM.call h2_⟩)))
                      · exact absurd hh_ (by decide)
                      · exact absurd hj_ (by simp)
                    · obtain rfl := Option.some.inj ho_
                      exact gw rfl (g_move _ (.tuple #[.agg (kc (kyk ss PP 0)).toArray, .int .i64 (0)]) rfl ⟨rfl, hM⟩)
                    · obtain rfl := Option.some.inj ho_
                      exact gw rfl (g_extract _ #[.agg (kc (kyk ss PP 0)).toArray, .int .i64 (0)] 0 (.agg (kc (kyk ss PP 0)).toArray) rfl rfl ⟨rfl, hM⟩)
                    · obtain rfl := Option.some.inj ho_
                      exact gw rfl (g_extract _ #[.agg (kc (kyk ss PP 0)).toArray, .int .i64 (0)] 1 (.int .i64 (0)) rfl rfl ⟨rfl, hM⟩)
                    · exact absurd (by decide) hi_
                    · exact absurd (by decide) hi_
                    · obtain rfl := Option.some.inj ho_
                      exact gw rfl (g_assign _ (.int .i64 (0)) rfl ⟨rfl, hM⟩)
                    · simp at ho_
                  · simp only [fullL, Act.put, st_a, st_s, st_0]
                    rintro p46 w45 hM
                    replace hM : Ms w w45 [blk (p46) (kc (kyk ss PP 0)) 23, blk (p40) (pkc (i') (x') (g') (t') (k')) 44, blk (q) (rsc (ss) (PP) (l')) 36, blk (p37) (pkc (i') (x') (g') (t') (k')) 44, sn p (ss) (PP) (l'), blk (w2.heap.size) (plc (P)) 25, blk (w.heap.size) (kc (s)) 23] := hM
                    refine hK44 _ _ ?_
                    (try clear hK44 K44)
                    refine wp_seq_k (fun K47 hK47 => ?_)
                    refine wp_region_fixed (by kernel_rfl) (by kernel_rfl) [.pointer (some ⟨p, 0, none⟩), .agg (kc (kyk ss PP 0)).toArray, .agg (kc (kyk ss PP 0)).toArray, .bool false] (by rfl) (fun wx => Ms w wx [blk (p46) (kc (kyk ss PP 0)) 23, blk (p40) (pkc (i') (x') (g') (t') (k')) 44, blk (q) (rsc (ss) (PP) (l')) 36, blk (p37) (pkc (i') (x') (g') (t') (k')) 44, sn p (ss) (PP) (l'), blk (w2.heap.size) (plc (P)) 25, blk (w.heap.size) (kc (s)) 23]) hM.drew ?_ ?_
                    · simp only [fullL, Act.put, st_a, st_s, st_0]
                      refine ⟨?_, ?_, ?_, ?_, trivial⟩
                      · exact fun wx hM => gw rfl (g_move _ (.pointer (some ⟨p, 0, none⟩)) rfl ⟨rfl, hM⟩)
                      · exact fun wx hM => gw rfl (g_call 19 _ _ [.pointer (some ⟨p, 0, none⟩)] (kf19 _ _) rfl ((known_v (show Ms w wx [sn p (ss) (PP) (l'), blk (p46) (kc (kyk ss PP 0)) 23, blk (p40) (pkc (i') (x') (g') (t') (k')) 44, blk (q) (rsc (ss) (PP) (l')) 36, blk (p37) (pkc (i') (x') (g') (t') (k')) 44, blk (w2.heap.size) (plc (P)) 25, blk (w.heap.size) (kc (s)) 23] from (hM.up 4 rfl)) (kyk ss PP 0) ⟨rfl⟩).mono (fun _ _ ⟨h1_, h2_⟩ => ⟨_, h1_, rfl, hM.call h2_⟩)))
                      · exact fun wx hM => gw rfl (g_load_all 23 _ (p46) (kc (kyk ss PP 0)) 23 _ rfl (hM.get 0 rfl) Tryd.underlying23 rfl (szK _) ⟨rfl, hM⟩)
                      · exact fun wx hM => gw rfl (g_nK _ _ (kyk ss PP 0) (kyk ss PP 0) true false rfl rfl (decide_eq_true rfl) rfl ⟨rfl, hM⟩)
                    · simp only [fullL, Act.put, st_a, st_s, st_0]
                      intro w48 hM
                      refine hK47 _ _ ?_
                      (try clear hK47 K47)
                      refine wp_cond_false rfl ?_
                      refine wp_skip ?_
                      refine hK30 _ _ ?_
                      (try clear hK30 K30)
                      refine wl_region ?_
                      refine wl_give rfl (g_move _ (.int .i64 (((j : Nat) : Int))) rfl ?_)
                      (try simp only [Act.put, st_a, st_0, st_s])
                      refine wl_give rfl (g_ia 3 _ _ .i64 (((j : Nat) : Int)) (1) (((j + 1 : Nat) : Int)) rfl rfl ej.out ?_)
                      (try simp only [Act.put, st_a, st_0, st_s])
                      refine wl_give rfl (g_assign _ (.int .i64 (((j + 1 : Nat) : Int))) rfl ?_)
                      (try simp only [Act.put, st_a, st_0, st_s])
                      refine wl_nil ?_
                      (try simp only [Exit.then, Exit.inBlock, ↓reduceIte, Nat.reduceEqDiff])
                      have hb := sn_ok (((((((hM.up 6 rfl).up 6 rfl).up 5 rfl).up 5 rfl).up 5 rfl).up 5 rfl).up 6 rfl)
                      go_roundw
                      case rel => exact ⟨j + 1, _, _, _, _, l', by omega, hb.1, hb.2.1, hb.2.2, rfl, rfl, rfl, (((((((hM.erase 0).erase 0).erase 1).up 3 rfl).up 3 rfl).up 3 rfl).up 3 rfl)⟩
                      case measure => simp [intOf]; omega
          clear hK34
          by_cases h72 : ((j : Nat) : Int) = z30
          · obtain ⟨Q, E, hth0⟩ : ∃ Q E, pth PP = (Q, E) := ⟨_, _, rfl⟩
            by_cases hE : E = 0
            · subst hE
              have hth : Shut (pth PP = (Q, 0)) := ⟨hth0⟩
              refine wp_seq_k (fun K49 hK49 => ?_)
              refine wl_region ?_
              refine wl_give rfl (g_move _ (.int .i64 (((j : Nat) : Int))) rfl ?_)
              (try simp only [Act.put, st_a, st_0, st_s])
              refine wl_give rfl (g_move _ (.int .u8 (z)) rfl ?_)
              (try simp only [Act.put, st_a, st_0, st_s])
              refine wl_give rfl (g_irem 5 _ _ .u8 (z) (30) (z30) rfl rfl (by decide) eZ.out ?_)
              (try simp only [Act.put, st_a, st_0, st_s])
              refine wl_give rfl (g_cv_5_3 _ (z30) (z30) rfl (wz.out) ?_)
              (try simp only [Act.put, st_a, st_0, st_s])
              refine wl_give rfl (g_ieq 3 _ _ .i64 (((j : Nat) : Int)) (z30) true rfl rfl (decide_eq_true h72) ?_)
              (try simp only [Act.put, st_a, st_0, st_s])
              refine wl_nil ?_
              refine hK49 _ _ ?_
              (try clear hK49 K49)
              refine wp_cond_true rfl ?_
              refine wp_seq_k (fun K50 hK50 => ?_)
              refine wl_region ?_
              refine wl_give rfl (g_move _ (.pointer (some ⟨p, 0, none⟩)) rfl ?_)
              (try simp only [Act.put, st_a, st_0, st_s])
              refine wl_give rfl (g_call 13 _ _ [.pointer (some ⟨p, 0, none⟩)] (kf13 _ _) rfl ((renew_yes (show Ms w w33 [sn p (ss) (PP) (l), blk (q) (rsc (ss) (PP) (l)) 36, blk (w2.heap.size) (plc (P)) 25, blk (w.heap.size) (kc (s)) 23] from (hM.up 1 rfl)) hT Q hth).mono ?_))
              rintro e w51 ⟨v52, rfl, h_⟩
              refine ⟨_, rfl, ?_⟩
              replace hM : Ms w w51 [sn v52 (tg ss seedW) (Q) (0), sn p (ss) (PP) (l), blk (q) (rsc (ss) (PP) (l)) 36, blk (w2.heap.size) (plc (P)) 25, blk (w.heap.size) (kc (s)) 23] := h_
              clear h_
              (try simp only [Act.put, st_a, st_0, st_s])
              refine wl_give rfl (g_move _ (.tuple #[.pointer (some ⟨v52, 0, none⟩), .int .i64 (0)]) rfl ?_)
              (try simp only [Act.put, st_a, st_0, st_s])
              refine wl_give rfl (g_extract _ #[.pointer (some ⟨v52, 0, none⟩), .int .i64 (0)] 0 (.pointer (some ⟨v52, 0, none⟩)) rfl rfl ?_)
              (try simp only [Act.put, st_a, st_0, st_s])
              refine wl_give rfl (g_extract _ #[.pointer (some ⟨v52, 0, none⟩), .int .i64 (0)] 1 (.int .i64 (0)) rfl rfl ?_)
              (try simp only [Act.put, st_a, st_0, st_s])
              refine wl_give rfl (g_assign _ (.pointer (some ⟨v52, 0, none⟩)) rfl ?_)
              (try simp only [Act.put, st_a, st_0, st_s])
              refine wl_give rfl (g_assign _ (.int .i64 (0)) rfl ?_)
              (try simp only [Act.put, st_a, st_0, st_s])
              refine wl_nil ?_
              refine hK50 _ _ ?_
              (try clear hK50 K50)
              refine wp_seq_k (fun K53 hK53 => ?_)
              refine wl_region ?_
              refine wl_give rfl (g_move _ (.pointer (some ⟨q, 0, none⟩)) rfl ?_)
              (try simp only [Act.put, st_a, st_0, st_s])
              refine wl_give rfl (g_call 14 _ _ [.pointer (some ⟨q, 0, none⟩)] (kf14 _ _) rfl ((rrenew_yes (show Ms w w51 [blk (q) (rsc (ss) (PP) (l)) 36, sn v52 (tg ss seedW) (Q) (0), sn p (ss) (PP) (l), blk (w2.heap.size) (plc (P)) 25, blk (w.heap.size) (kc (s)) 23] from (hM.up 2 rfl)) hPP Q hth).mono ?_))
              rintro e w54 ⟨v55, rfl, h_⟩
              refine ⟨_, rfl, ?_⟩
              replace hM : Ms w w54 [blk (v55) (rsc (tg ss seedW) (Q) (0)) 36, blk (q) (rsc (ss) (PP) (l)) 36, sn v52 (tg ss seedW) (Q) (0), sn p (ss) (PP) (l), blk (w2.heap.size) (plc (P)) 25, blk (w.heap.size) (kc (s)) 23] := h_
              clear h_
              (try simp only [Act.put, st_a, st_0, st_s])
              refine wl_give rfl (g_move _ (.tuple #[.pointer (some ⟨v55, 0, none⟩), .int .i64 (0)]) rfl ?_)
              (try simp only [Act.put, st_a, st_0, st_s])
              refine wl_give rfl (g_extract _ #[.pointer (some ⟨v55, 0, none⟩), .int .i64 (0)] 0 (.pointer (some ⟨v55, 0, none⟩)) rfl rfl ?_)
              (try simp only [Act.put, st_a, st_0, st_s])
              refine wl_give rfl (g_extract _ #[.pointer (some ⟨v55, 0, none⟩), .int .i64 (0)] 1 (.int .i64 (0)) rfl rfl ?_)
              (try simp only [Act.put, st_a, st_0, st_s])
              refine wl_give rfl (g_assign _ (.pointer (some ⟨v55, 0, none⟩)) rfl ?_)
              (try simp only [Act.put, st_a, st_0, st_s])
              refine wl_give rfl (g_assign _ (.int .i64 (0)) rfl ?_)
              (try simp only [Act.put, st_a, st_0, st_s])
              refine wl_nil ?_
              refine hK53 _ _ ?_
              (try clear hK53 K53)
              refine wp_seq_k (fun K56 hK56 => ?_)
              refine wp_seq_k (fun K57 hK57 => ?_)
              refine wl_region ?_
              refine wl_give rfl (g_move _ (.int .i64 (0)) rfl ?_)
              (try simp only [Act.put, st_a, st_0, st_s])
              refine wl_give rfl (g_move _ (.int .i64 (0)) rfl ?_)
              (try simp only [Act.put, st_a, st_0, st_s])
              refine wl_give rfl (g_ine 29 _ _ .i64 (0) (0) false rfl rfl (by decide) ?_)
              (try simp only [Act.put, st_a, st_0, st_s])
              refine wl_give rfl (g_move _ (.bool false) rfl ?_)
              (try simp only [Act.put, st_a, st_0, st_s])
              refine wl_give rfl (g_move _ (.pointer (some ⟨v52, 0, none⟩)) rfl ?_)
              (try simp only [Act.put, st_a, st_0, st_s])
              refine wl_give rfl (g_peqS _ ((some ⟨v52, 0, none⟩)) false rfl rfl ?_)
              (try simp only [Act.put, st_a, st_0, st_s])
              refine wl_give rfl (g_move _ (.pointer (some ⟨v55, 0, none⟩)) rfl ?_)
              (try simp only [Act.put, st_a, st_0, st_s])
              refine wl_give rfl (g_peqR _ ((some ⟨v55, 0, none⟩)) false rfl rfl ?_)
              (try simp only [Act.put, st_a, st_0, st_s])
              refine wl_give rfl (g_bneq _ _ false false false rfl rfl (rfl) ?_)
              (try simp only [Act.put, st_a, st_0, st_s])
              refine wl_give rfl (g_pickf _ _ _ (.bool false) rfl rfl ?_)
              (try simp only [Act.put, st_a, st_0, st_s])
              refine wl_nil ?_
              refine hK57 _ _ ?_
              (try clear hK57 K57)
              refine wp_cond_false rfl ?_
              refine wp_skip ?_
              refine hK56 _ _ ?_
              (try clear hK56 K56)
              refine wp_seq_k (fun K58 hK58 => ?_)
              refine wl_region ?_
              refine wl_give rfl (g_move _ (.pointer (some ⟨v52, 0, none⟩)) rfl ?_)
              (try simp only [Act.put, st_a, st_0, st_s])
              refine wl_give rfl (g_pneS _ ((some ⟨v52, 0, none⟩)) true rfl rfl ?_)
              (try simp only [Act.put, st_a, st_0, st_s])
              refine wl_nil ?_
              refine hK58 _ _ ?_
              (try clear hK58 K58)
              refine wp_cond_true rfl ?_
              refine wl_region ?_
              refine wl_give rfl (g_move _ (.pointer (some ⟨v52, 0, none⟩)) rfl ?_)
              (try simp only [Act.put, st_a, st_0, st_s])
              refine wl_give rfl (g_move _ (.pointer (some ⟨v55, 0, none⟩)) rfl ?_)
              (try simp only [Act.put, st_a, st_0, st_s])
              refine wl_give rfl (g_assign _ (.pointer (some ⟨v52, 0, none⟩)) rfl ?_)
              (try simp only [Act.put, st_a, st_0, st_s])
              refine wl_give rfl (g_assign _ (.pointer (some ⟨v55, 0, none⟩)) rfl ?_)
              (try simp only [Act.put, st_a, st_0, st_s])
              refine wl_nil ?_
              exact hcut _ _ _ _ _ _ _ _ _ _ _ _ _ _ _ _ _ _ _ _ _ _ _ _ _ _ _ _ _ _ _ _ _ _ _ _ _ _ _ _ _ _ _ _ _ _ _ _ _ _ _ _ _ _ _ _ _ _ _ _ _ _ _ _ _ _ _ _ _ _ _ _ _ _ _ _ _ _ _ _ _ _ _ _ _ _ _ _ _ _ _ _ _ _ _ _ _ _ _ _ _ _ _ _ _ _ _ _ _ _ _ _ _ _ _ _ _ _ _ _ _ _ _ _ _ (pth_ok hth.out) (Int.le_refl _) (by have h9 := pth_ok hth.out; omega) ((((((hM.erase 1).erase 2).up 3 rfl).up 3 rfl).up 3 rfl).up 3 rfl)
            · have hth : Shut (pth PP = (Q, E)) := ⟨hth0⟩
              refine wp_seq_k (fun K59 hK59 => ?_)
              refine wl_region ?_
              refine wl_give rfl (g_move _ (.int .i64 (((j : Nat) : Int))) rfl ?_)
              (try simp only [Act.put, st_a, st_0, st_s])
              refine wl_give rfl (g_move _ (.int .u8 (z)) rfl ?_)
              (try simp only [Act.put, st_a, st_0, st_s])
              refine wl_give rfl (g_irem 5 _ _ .u8 (z) (30) (z30) rfl rfl (by decide) eZ.out ?_)
              (try simp only [Act.put, st_a, st_0, st_s])
              refine wl_give rfl (g_cv_5_3 _ (z30) (z30) rfl (wz.out) ?_)
              (try simp only [Act.put, st_a, st_0, st_s])
              refine wl_give rfl (g_ieq 3 _ _ .i64 (((j : Nat) : Int)) (z30) true rfl rfl (decide_eq_true h72) ?_)
              (try simp only [Act.put, st_a, st_0, st_s])
              refine wl_nil ?_
              refine hK59 _ _ ?_
              (try clear hK59 K59)
              refine wp_cond_true rfl ?_
              refine wp_seq_k (fun K60 hK60 => ?_)
              refine wl_region ?_
              refine wl_give rfl (g_move _ (.pointer (some ⟨p, 0, none⟩)) rfl ?_)
              (try simp only [Act.put, st_a, st_0, st_s])
              refine wl_give rfl (g_call 13 _ _ [.pointer (some ⟨p, 0, none⟩)] (kf13 _ _) rfl ((renew_no (show Ms w w33 [sn p (ss) (PP) (l), blk (q) (rsc (ss) (PP) (l)) 36, blk (w2.heap.size) (plc (P)) 25, blk (w.heap.size) (kc (s)) 23] from (hM.up 1 rfl)) hT Q E hth hE).mono ?_))
              rintro e w61 ⟨rfl, h_⟩
              refine ⟨_, rfl, ?_⟩
              replace hM : Ms w w61 [sn p (ss) (PP) (l), blk (q) (rsc (ss) (PP) (l)) 36, blk (w2.heap.size) (plc (P)) 25, blk (w.heap.size) (kc (s)) 23] := h_
              clear h_
              (try simp only [Act.put, st_a, st_0, st_s])
              refine wl_give rfl (g_move _ (.tuple #[.pointer none, .int .i64 (E)]) rfl ?_)
              (try simp only [Act.put, st_a, st_0, st_s])
              refine wl_give rfl (g_extract _ #[.pointer none, .int .i64 (E)] 0 (.pointer none) rfl rfl ?_)
              (try simp only [Act.put, st_a, st_0, st_s])
              refine wl_give rfl (g_extract _ #[.pointer none, .int .i64 (E)] 1 (.int .i64 (E)) rfl rfl ?_)
              (try simp only [Act.put, st_a, st_0, st_s])
              refine wl_give rfl (g_assign _ (.pointer none) rfl ?_)
              (try simp only [Act.put, st_a, st_0, st_s])
              refine wl_give rfl (g_assign _ (.int .i64 (E)) rfl ?_)
              (try simp only [Act.put, st_a, st_0, st_s])
              refine wl_nil ?_
              refine hK60 _ _ ?_
              (try clear hK60 K60)
              refine wp_seq_k (fun K62 hK62 => ?_)
              refine wl_region ?_
              refine wl_give rfl (g_move _ (.pointer (some ⟨q, 0, none⟩)) rfl ?_)
              (try simp only [Act.put, st_a, st_0, st_s])
              refine wl_give rfl (g_call 14 _ _ [.pointer (some ⟨q, 0, none⟩)] (kf14 _ _) rfl ((rrenew_no (show Ms w w61 [blk (q) (rsc (ss) (PP) (l)) 36, sn p (ss) (PP) (l), blk (w2.heap.size) (plc (P)) 25, blk (w.heap.size) (kc (s)) 23] from (hM.up 1 rfl)) hPP Q E hth hE).mono ?_))
              rintro e w63 ⟨rfl, h_⟩
              refine ⟨_, rfl, ?_⟩
              replace hM : Ms w w63 [blk (q) (rsc (ss) (PP) (l)) 36, sn p (ss) (PP) (l), blk (w2.heap.size) (plc (P)) 25, blk (w.heap.size) (kc (s)) 23] := h_
              clear h_
              (try simp only [Act.put, st_a, st_0, st_s])
              refine wl_give rfl (g_move _ (.tuple #[.pointer none, .int .i64 (E)]) rfl ?_)
              (try simp only [Act.put, st_a, st_0, st_s])
              refine wl_give rfl (g_extract _ #[.pointer none, .int .i64 (E)] 0 (.pointer none) rfl rfl ?_)
              (try simp only [Act.put, st_a, st_0, st_s])
              refine wl_give rfl (g_extract _ #[.pointer none, .int .i64 (E)] 1 (.int .i64 (E)) rfl rfl ?_)
              (try simp only [Act.put, st_a, st_0, st_s])
              refine wl_give rfl (g_assign _ (.pointer none) rfl ?_)
              (try simp only [Act.put, st_a, st_0, st_s])
              refine wl_give rfl (g_assign _ (.int .i64 (E)) rfl ?_)
              (try simp only [Act.put, st_a, st_0, st_s])
              refine wl_nil ?_
              refine hK62 _ _ ?_
              (try clear hK62 K62)
              refine wp_seq_k (fun K64 hK64 => ?_)
              refine wp_seq_k (fun K65 hK65 => ?_)
              refine wl_region ?_
              refine wl_give rfl (g_move _ (.int .i64 (E)) rfl ?_)
              (try simp only [Act.put, st_a, st_0, st_s])
              refine wl_give rfl (g_move _ (.int .i64 (E)) rfl ?_)
              (try simp only [Act.put, st_a, st_0, st_s])
              refine wl_give rfl (g_ine 29 _ _ .i64 (E) (E) false rfl rfl (decide_eq_false (fun h => h rfl)) ?_)
              (try simp only [Act.put, st_a, st_0, st_s])
              refine wl_give rfl (g_move _ (.bool false) rfl ?_)
              (try simp only [Act.put, st_a, st_0, st_s])
              refine wl_give rfl (g_move _ (.pointer none) rfl ?_)
              (try simp only [Act.put, st_a, st_0, st_s])
              refine wl_give rfl (g_peqS _ (none) true rfl rfl ?_)
              (try simp only [Act.put, st_a, st_0, st_s])
              refine wl_give rfl (g_move _ (.pointer none) rfl ?_)
              (try simp only [Act.put, st_a, st_0, st_s])
              refine wl_give rfl (g_peqR _ (none) true rfl rfl ?_)
              (try simp only [Act.put, st_a, st_0, st_s])
              refine wl_give rfl (g_bneq _ _ true true false rfl rfl (rfl) ?_)
              (try simp only [Act.put, st_a, st_0, st_s])
              refine wl_give rfl (g_pickf _ _ _ (.bool false) rfl rfl ?_)
              (try simp only [Act.put, st_a, st_0, st_s])
              refine wl_nil ?_
              refine hK65 _ _ ?_
              (try clear hK65 K65)
              refine wp_cond_false rfl ?_
              refine wp_skip ?_
              refine hK64 _ _ ?_
              (try clear hK64 K64)
              refine wp_seq_k (fun K66 hK66 => ?_)
              refine wl_region ?_
              refine wl_give rfl (g_move _ (.pointer none) rfl ?_)
              (try simp only [Act.put, st_a, st_0, st_s])
              refine wl_give rfl (g_pneS _ (none) false rfl rfl ?_)
              (try simp only [Act.put, st_a, st_0, st_s])
              refine wl_nil ?_
              refine hK66 _ _ ?_
              (try clear hK66 K66)
              refine wp_cond_false rfl ?_
              refine wp_skip ?_
              exact hcut _ _ _ _ _ _ _ _ _ _ _ _ _ _ _ _ _ _ _ _ _ _ _ _ _ _ _ _ _ _ _ _ _ _ _ _ _ _ _ _ _ _ _ _ _ _ _ _ _ _ _ _ _ _ _ _ _ _ _ _ _ _ _ _ _ _ _ _ _ _ _ _ _ _ _ _ _ _ _ _ _ _ _ _ _ _ _ _ _ _ _ _ _ _ _ _ _ _ _ _ _ _ _ _ _ _ _ _ _ _ _ _ _ _ _ _ _ _ _ _ _ _ _ _ _ hPP hl0 hl1 ((((hM.up 3 rfl).up 3 rfl).up 3 rfl).up 3 rfl)
          · skip
            refine wp_seq_k (fun K67 hK67 => ?_)
            refine wl_region ?_
            refine wl_give rfl (g_move _ (.int .i64 (((j : Nat) : Int))) rfl ?_)
            (try simp only [Act.put, st_a, st_0, st_s])
            refine wl_give rfl (g_move _ (.int .u8 (z)) rfl ?_)
            (try simp only [Act.put, st_a, st_0, st_s])
            refine wl_give rfl (g_irem 5 _ _ .u8 (z) (30) (z30) rfl rfl (by decide) eZ.out ?_)
            (try simp only [Act.put, st_a, st_0, st_s])
            refine wl_give rfl (g_cv_5_3 _ (z30) (z30) rfl (wz.out) ?_)
            (try simp only [Act.put, st_a, st_0, st_s])
            refine wl_give rfl (g_ieq 3 _ _ .i64 (((j : Nat) : Int)) (z30) false rfl rfl (decide_eq_false h72) ?_)
            (try simp only [Act.put, st_a, st_0, st_s])
            refine wl_nil ?_
            refine hK67 _ _ ?_
            (try clear hK67 K67)
            refine wp_cond_false rfl ?_
            refine wp_skip ?_
            exact hcut _ _ _ _ _ _ _ _ _ _ _ _ _ _ _ _ _ _ _ _ _ _ _ _ _ _ _ _ _ _ _ _ _ _ _ _ _ _ _ _ _ _ _ _ _ _ _ _ _ _ _ _ _ _ _ _ _ _ _ _ _ _ _ _ _ _ _ _ _ _ _ _ _ _ _ _ _ _ _ _ _ _ _ _ _ _ _ _ _ _ _ _ _ _ _ _ _ _ _ _ _ _ _ _ _ _ _ _ _ _ _ _ _ _ _ _ _ _ _ _ _ _ _ _ _ hPP hl0 hl1 ((((hM.up 3 rfl).up 3 rfl).up 3 rfl).up 3 rfl)
      · skip
        refine wp_seq_k (fun K68 hK68 => ?_)
        refine wp_seq_k (fun K69 hK69 => ?_)
        refine wl_region ?_
        refine wl_give rfl (g_move _ (.int .i64 (((j : Nat) : Int))) rfl ?_)
        (try simp only [Act.put, st_a, st_0, st_s])
        refine wl_give rfl (g_move _ (.slice ao (n) (cap)) rfl ?_)
        (try simp only [Act.put, st_a, st_0, st_s])
        refine wl_give rfl (g_len _ 26 39 (ao) (n) (cap) (((n : Nat) : Int)) Tryd.underlying26 rfl (rfl) ?_)
        (try simp only [Act.put, st_a, st_0, st_s])
        refine wl_give rfl (g_ilss 3 _ _ .i64 (((j : Nat) : Int)) (((n : Nat) : Int)) true rfl rfl (decide_eq_true (by omega)) ?_)
        (try simp only [Act.put, st_a, st_0, st_s])
        refine wl_give rfl (g_move _ (.bool true) rfl ?_)
        (try simp only [Act.put, st_a, st_0, st_s])
        refine wl_give rfl (g_move _ (.int .i64 (((j : Nat) : Int))) rfl ?_)
        (try simp only [Act.put, st_a, st_0, st_s])
        refine wl_give rfl (g_ilss 3 _ _ .i64 (((j : Nat) : Int)) (30) false rfl rfl (decide_eq_false h30) ?_)
        (try simp only [Act.put, st_a, st_0, st_s])
        refine wl_give rfl (g_pickt _ _ _ (.bool false) rfl rfl ?_)
        (try simp only [Act.put, st_a, st_0, st_s])
        refine wl_nil ?_
        refine hK69 _ _ ?_
        (try clear hK69 K69)
        refine wp_cond_false rfl ?_
        refine wp_exit ?_
        refine hK19 _ _ ?_
        (try clear hK19 K19)
        refine wp_seq_k (fun K70 hK70 => ?_)
        refine wl_region ?_
        refine wl_give rfl (g_assign _ (.bool true) rfl ?_)
        (try simp only [Act.put, st_a, st_0, st_s])
        refine wl_nil ?_
        refine hK70 _ _ ?_
        (try clear hK70 K70)
        refine wp_ret ?_
        go_ret
        exact ⟨rfl, hM.below⟩
    · skip
      refine wp_seq_k (fun K71 hK71 => ?_)
      refine wp_seq_k (fun K72 hK72 => ?_)
      refine wl_region ?_
      refine wl_give rfl (g_move _ (.int .i64 (((j : Nat) : Int))) rfl ?_)
      (try simp only [Act.put, st_a, st_0, st_s])
      refine wl_give rfl (g_move _ (.slice ao (n) (cap)) rfl ?_)
      (try simp only [Act.put, st_a, st_0, st_s])
      refine wl_give rfl (g_len _ 26 39 (ao) (n) (cap) (((n : Nat) : Int)) Tryd.underlying26 rfl (rfl) ?_)
      (try simp only [Act.put, st_a, st_0, st_s])
      refine wl_give rfl (g_ilss 3 _ _ .i64 (((j : Nat) : Int)) (((n : Nat) : Int)) false rfl rfl (decide_eq_false (by omega)) ?_)
      (try simp only [Act.put, st_a, st_0, st_s])
      refine wl_give rfl (g_move _ (.bool false) rfl ?_)
      (try simp only [Act.put, st_a, st_0, st_s])
      refine wl_skip rfl ?_
      (try simp only [Act.put, st_a, st_0, st_s])
      refine wl_skip rfl ?_
      (try simp only [Act.put, st_a, st_0, st_s])
      refine wl_give rfl (g_pickf _ _ _ (.bool false) rfl rfl ?_)
      (try simp only [Act.put, st_a, st_0, st_s])
      refine wl_nil ?_
      refine hK72 _ _ ?_
      (try clear hK72 K72)
      refine wp_cond_false rfl ?_
      refine wp_exit ?_
      refine hK19 _ _ ?_
      (try clear hK19 K19)
      refine wp_seq_k (fun K73 hK73 => ?_)
      refine wl_region ?_
      refine wl_give rfl (g_assign _ (.bool true) rfl ?_)
      (try simp only [Act.put, st_a, st_0, st_s])
      refine wl_nil ?_
      refine hK73 _ _ ?_
      (try clear hK73 K73)
      refine wp_ret ?_
      go_ret
      exact ⟨rfl, hM.below⟩
theorem walk (l0 : List UInt8) (h0 : l0.length = 32) (P : Pl) (ao : Option Addr) (n cap : Nat) (z : Int) (w : World) (hT : Tabs w) (hp : PIn P) (hc : LC w ao n) (hn : n ≤ cap) (hcap : cap ≤ maxLen) (hz : 0 ≤ z ∧ z < 256) : Calls Tryd.prog 3 #[.agg (bc l0).toArray, .agg (plc P).toArray, .slice ao n cap, .int .u8 z] w fun e w' => e = .returned (.bool true) ∧ Below w.heap.size w w' := by
  unfold maxLen at hcap
  by_cases hP : POk P
  · by_cases h1 : 16 < P.ct
    · exact walk_2 ⟨l0, h0⟩ P ao n cap z w hT hP h1
    · obtain ⟨r, er, hr⟩ := rem_nat z 30 (by decide) hz.1
      exact walk_3 ⟨l0, h0⟩ P ao n cap z w hT hP h1 r ⟨wrap_id _ (by omega) (by omega)⟩ ⟨er⟩ hc (by omega)
  · exact walk_1 ⟨l0, h0⟩ P ao n cap z w hT hP
end Go.Proofs.YtphocklnhoakcaaDoor.senderSends
