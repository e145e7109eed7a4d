/- SenderSame: the walk. -/
import Derived.Test.YtphocklnhoakcaaDoorLawC
import Derived.WalkKit
import Derived.WalkSpells
import Derived.WalkLawsBesides
namespace Go.Proofs.YtphocklnhoakcaaDoor.senderSame
set_option maxRecDepth 10000
open Go Go.RowKit
set_option linter.unusedVariables false
set_option linter.unusedSimpArgs false

set_option maxHeartbeats 4000000 in
theorem walk_1 (s : Ky) (P : Pl) (z : Int) (x : ByteArray) (ao : Option Addr) (n cap : Nat) (w : World) (hT : Tabs w) (hP : ¬ POk P) : Calls Tryd.prog 8 #[.agg (kc s).toArray, .agg (plc P).toArray, .int .u8 z, .string x, .slice ao n cap] w fun e w' => e = .returned (.bool true) ∧ Below w.heap.size w w' := by
  have hM := Ms.refl w
  go_enter Tryd.func8, Tryd.ntmps8
  refine wp_seq_k (fun K1 hK1 => ?_)
  refine wl_region ?_
  refine wl_give rfl (g_box 23 _ (kc (s)) rfl ?_)
  intro w2 t_ b_
  replace hM := hM.new t_ b_
  clear t_ b_
  (try simp only [Act.put, st_a, st_0, st_s])
  refine wl_give rfl (g_box 25 _ (plc (P)) rfl ?_)
  intro w3 t_ b_
  replace hM := hM.new t_ b_
  clear t_ b_
  (try simp only [Act.put, st_a, st_0, st_s])
  refine wl_give rfl (g_assign _ (.bool false) rfl ?_)
  (try simp only [Act.put, st_a, st_0, st_s])
  refine wl_nil ?_
  refine hK1 _ _ ?_
  (try clear hK1 K1)
  refine wp_seq_k (fun K4 hK4 => ?_)
  refine wp_seq_k (fun K5 hK5 => ?_)
  refine wl_region ?_
  refine wl_give rfl (g_call 9 _ _ [] (kf9 _ _) rfl ((awake_any w3 (hM.tabs hT)).mono ?_))
  rintro e w6 ⟨rfl, t_⟩
  refine ⟨_, rfl, ?_⟩
  replace hM := hM.call t_
  clear t_
  (try simp only [Act.put, st_a, st_0, st_s])
  refine wl_give rfl (g_unot 4 _ true rfl ?_)
  (try simp only [Act.put, st_a, st_0, st_s])
  refine wl_nil ?_
  refine hK5 _ _ ?_
  (try clear hK5 K5)
  refine wp_cond_false rfl ?_
  refine wp_skip ?_
  refine hK4 _ _ ?_
  (try clear hK4 K4)
  refine wp_seq_k (fun K7 hK7 => ?_)
  refine wp_seq_k (fun K8 hK8 => ?_)
  refine wl_region ?_
  refine wl_give rfl (g_load_all 25 _ (w2.heap.size) (plc (P)) 25 _ rfl (hM.get 0 rfl) Tryd.underlying25 rfl (szPl _) ?_)
  (try simp only [Act.put, st_a, st_0, st_s])
  refine wl_give rfl (g_call 11 _ _ [.agg (plc (P)).toArray] (kf11 _ _) rfl ((may_no P w6 hP).mono ?_))
  rintro e w9 ⟨rfl, t_⟩
  refine ⟨_, rfl, ?_⟩
  replace hM := hM.call t_
  clear t_
  (try simp only [Act.put, st_a, st_0, st_s])
  refine wl_give rfl (g_unot 4 _ false rfl ?_)
  (try simp only [Act.put, st_a, st_0, st_s])
  refine wl_give rfl (g_move _ (.bool true) rfl ?_)
  (try simp only [Act.put, st_a, st_0, st_s])
  refine wl_skip rfl ?_
  (try simp only [Act.put, st_a, st_0, st_s])
  refine wl_skip rfl ?_
  (try simp only [Act.put, st_a, st_0, st_s])
  refine wl_skip rfl ?_
  (try simp only [Act.put, st_a, st_0, st_s])
  refine wl_give rfl (g_pickt _ _ _ (.bool true) rfl rfl ?_)
  (try simp only [Act.put, st_a, st_0, st_s])
  refine wl_give rfl (g_move _ (.bool true) rfl ?_)
  (try simp only [Act.put, st_a, st_0, st_s])
  refine wl_skip rfl ?_
  (try simp only [Act.put, st_a, st_0, st_s])
  refine wl_skip rfl ?_
  (try simp only [Act.put, st_a, st_0, st_s])
  refine wl_skip rfl ?_
  (try simp only [Act.put, st_a, st_0, st_s])
  refine wl_give rfl (g_pickt _ _ _ (.bool true) rfl rfl ?_)
  (try simp only [Act.put, st_a, st_0, st_s])
  refine wl_nil ?_
  refine hK8 _ _ ?_
  (try clear hK8 K8)
  refine wp_cond_true rfl ?_
  refine wp_seq_k (fun K10 hK10 => ?_)
  refine wl_region ?_
  refine wl_give rfl (g_assign _ (.bool true) rfl ?_)
  (try simp only [Act.put, st_a, st_0, st_s])
  refine wl_nil ?_
  refine hK10 _ _ ?_
  (try clear hK10 K10)
  refine wp_ret ?_
  go_ret
  exact ⟨rfl, hM.below⟩
set_option maxHeartbeats 4000000 in
theorem walk_2 (s : Ky) (P : Pl) (z : Int) (x : ByteArray) (ao : Option Addr) (n cap : Nat) (w : World) (hT : Tabs w) (hP : POk P) (h1 : 16 < P.ct) : Calls Tryd.prog 8 #[.agg (kc s).toArray, .agg (plc P).toArray, .int .u8 z, .string x, .slice ao n cap] w fun e w' => e = .returned (.bool true) ∧ Below w.heap.size w w' := by
  have hM := Ms.refl w
  go_enter Tryd.func8, Tryd.ntmps8
  refine wp_seq_k (fun K1 hK1 => ?_)
  refine wl_region ?_
  refine wl_give rfl (g_box 23 _ (kc (s)) rfl ?_)
  intro w2 t_ b_
  replace hM := hM.new t_ b_
  clear t_ b_
  (try simp only [Act.put, st_a, st_0, st_s])
  refine wl_give rfl (g_box 25 _ (plc (P)) rfl ?_)
  intro w3 t_ b_
  replace hM := hM.new t_ b_
  clear t_ b_
  (try simp only [Act.put, st_a, st_0, st_s])
  refine wl_give rfl (g_assign _ (.bool false) rfl ?_)
  (try simp only [Act.put, st_a, st_0, st_s])
  refine wl_nil ?_
  refine hK1 _ _ ?_
  (try clear hK1 K1)
  refine wp_seq_k (fun K4 hK4 => ?_)
  refine wp_seq_k (fun K5 hK5 => ?_)
  refine wl_region ?_
  refine wl_give rfl (g_call 9 _ _ [] (kf9 _ _) rfl ((awake_any w3 (hM.tabs hT)).mono ?_))
  rintro e w6 ⟨rfl, t_⟩
  refine ⟨_, rfl, ?_⟩
  replace hM := hM.call t_
  clear t_
  (try simp only [Act.put, st_a, st_0, st_s])
  refine wl_give rfl (g_unot 4 _ true rfl ?_)
  (try simp only [Act.put, st_a, st_0, st_s])
  refine wl_nil ?_
  refine hK5 _ _ ?_
  (try clear hK5 K5)
  refine wp_cond_false rfl ?_
  refine wp_skip ?_
  refine hK4 _ _ ?_
  (try clear hK4 K4)
  refine wp_seq_k (fun K7 hK7 => ?_)
  refine wp_seq_k (fun K8 hK8 => ?_)
  refine wl_region ?_
  refine wl_give rfl (g_load_all 25 _ (w2.heap.size) (plc (P)) 25 _ rfl (hM.get 0 rfl) Tryd.underlying25 rfl (szPl _) ?_)
  (try simp only [Act.put, st_a, st_0, st_s])
  refine wl_give rfl (g_call 11 _ _ [.agg (plc (P)).toArray] (kf11 _ _) rfl ((may_yes P w6 hP).mono ?_))
  rintro e w9 ⟨rfl, t_⟩
  refine ⟨_, rfl, ?_⟩
  replace hM := hM.call t_
  clear t_
  (try simp only [Act.put, st_a, st_0, st_s])
  refine wl_give rfl (g_unot 4 _ true rfl ?_)
  (try simp only [Act.put, st_a, st_0, st_s])
  refine wl_give rfl (g_move _ (.bool false) rfl ?_)
  (try simp only [Act.put, st_a, st_0, st_s])
  refine wl_give rfl (g_fa 25 _ (w2.heap.size) (0) (3) 3 rfl (faPl3 _ _ _) ?_)
  (try simp only [Act.put, st_a, st_0, st_s])
  refine wl_give rfl (g_ld1 3 _ (w2.heap.size) (3) _ rfl (ld3 _ _ _ _ ((hM.get 0 rfl).cell (3) _ (rfl))) ?_)
  (try simp only [Act.put, st_a, st_0, st_s])
  refine wl_give rfl (g_igtr 3 _ _ .i64 ((P).ct) (16) true rfl rfl (decide_eq_true h1) ?_)
  (try simp only [Act.put, st_a, st_0, st_s])
  refine wl_give rfl (g_pickf _ _ _ (.bool true) rfl rfl ?_)
  (try simp only [Act.put, st_a, st_0, st_s])
  refine wl_give rfl (g_move _ (.bool true) rfl ?_)
  (try simp only [Act.put, st_a, st_0, st_s])
  refine wl_skip rfl ?_
  (try simp only [Act.put, st_a, st_0, st_s])
  refine wl_skip rfl ?_
  (try simp only [Act.put, st_a, st_0, st_s])
  refine wl_skip rfl ?_
  (try simp only [Act.put, st_a, st_0, st_s])
  refine wl_give rfl (g_pickt _ _ _ (.bool true) rfl rfl ?_)
  (try simp only [Act.put, st_a, st_0, st_s])
  refine wl_nil ?_
  refine hK8 _ _ ?_
  (try clear hK8 K8)
  refine wp_cond_true rfl ?_
  refine wp_seq_k (fun K10 hK10 => ?_)
  refine wl_region ?_
  refine wl_give rfl (g_assign _ (.bool true) rfl ?_)
  (try simp only [Act.put, st_a, st_0, st_s])
  refine wl_nil ?_
  refine hK10 _ _ ?_
  (try clear hK10 K10)
  refine wp_ret ?_
  go_ret
  exact ⟨rfl, hM.below⟩
set_option maxHeartbeats 4000000 in
theorem walk_3 (s : Ky) (P : Pl) (z : Int) (x : ByteArray) (ao : Option Addr) (n cap : Nat) (w : World) (hT : Tabs w) (hP : POk P) (h1 : ¬ 16 < P.ct) (h2 : 1000 < ((x.size : Nat) : Int)) : Calls Tryd.prog 8 #[.agg (kc s).toArray, .agg (plc P).toArray, .int .u8 z, .string x, .slice ao n cap] w fun e w' => e = .returned (.bool true) ∧ Below w.heap.size w w' := by
  have hM := Ms.refl w
  go_enter Tryd.func8, Tryd.ntmps8
  refine wp_seq_k (fun K1 hK1 => ?_)
  refine wl_region ?_
  refine wl_give rfl (g_box 23 _ (kc (s)) rfl ?_)
  intro w2 t_ b_
  replace hM := hM.new t_ b_
  clear t_ b_
  (try simp only [Act.put, st_a, st_0, st_s])
  refine wl_give rfl (g_box 25 _ (plc (P)) rfl ?_)
  intro w3 t_ b_
  replace hM := hM.new t_ b_
  clear t_ b_
  (try simp only [Act.put, st_a, st_0, st_s])
  refine wl_give rfl (g_assign _ (.bool false) rfl ?_)
  (try simp only [Act.put, st_a, st_0, st_s])
  refine wl_nil ?_
  refine hK1 _ _ ?_
  (try clear hK1 K1)
  refine wp_seq_k (fun K4 hK4 => ?_)
  refine wp_seq_k (fun K5 hK5 => ?_)
  refine wl_region ?_
  refine wl_give rfl (g_call 9 _ _ [] (kf9 _ _) rfl ((awake_any w3 (hM.tabs hT)).mono ?_))
  rintro e w6 ⟨rfl, t_⟩
  refine ⟨_, rfl, ?_⟩
  replace hM := hM.call t_
  clear t_
  (try simp only [Act.put, st_a, st_0, st_s])
  refine wl_give rfl (g_unot 4 _ true rfl ?_)
  (try simp only [Act.put, st_a, st_0, st_s])
  refine wl_nil ?_
  refine hK5 _ _ ?_
  (try clear hK5 K5)
  refine wp_cond_false rfl ?_
  refine wp_skip ?_
  refine hK4 _ _ ?_
  (try clear hK4 K4)
  refine wp_seq_k (fun K7 hK7 => ?_)
  refine wp_seq_k (fun K8 hK8 => ?_)
  refine wl_region ?_
  refine wl_give rfl (g_load_all 25 _ (w2.heap.size) (plc (P)) 25 _ rfl (hM.get 0 rfl) Tryd.underlying25 rfl (szPl _) ?_)
  (try simp only [Act.put, st_a, st_0, st_s])
  refine wl_give rfl (g_call 11 _ _ [.agg (plc (P)).toArray] (kf11 _ _) rfl ((may_yes P w6 hP).mono ?_))
  rintro e w9 ⟨rfl, t_⟩
  refine ⟨_, rfl, ?_⟩
  replace hM := hM.call t_
  clear t_
  (try simp only [Act.put, st_a, st_0, st_s])
  refine wl_give rfl (g_unot 4 _ true rfl ?_)
  (try simp only [Act.put, st_a, st_0, st_s])
  refine wl_give rfl (g_move _ (.bool false) rfl ?_)
  (try simp only [Act.put, st_a, st_0, st_s])
  refine wl_give rfl (g_fa 25 _ (w2.heap.size) (0) (3) 3 rfl (faPl3 _ _ _) ?_)
  (try simp only [Act.put, st_a, st_0, st_s])
  refine wl_give rfl (g_ld1 3 _ (w2.heap.size) (3) _ rfl (ld3 _ _ _ _ ((hM.get 0 rfl).cell (3) _ (rfl))) ?_)
  (try simp only [Act.put, st_a, st_0, st_s])
  refine wl_give rfl (g_igtr 3 _ _ .i64 ((P).ct) (16) false rfl rfl (decide_eq_false h1) ?_)
  (try simp only [Act.put, st_a, st_0, st_s])
  refine wl_give rfl (g_pickf _ _ _ (.bool false) rfl rfl ?_)
  (try simp only [Act.put, st_a, st_0, st_s])
  refine wl_give rfl (g_move _ (.bool false) rfl ?_)
  (try simp only [Act.put, st_a, st_0, st_s])
  refine wl_give rfl (g_move _ (.string (x)) rfl ?_)
  (try simp only [Act.put, st_a, st_0, st_s])
  refine wl_give rfl (g_lenT _ (x) ((((x).size : Nat) : Int)) rfl (rfl) ?_)
  (try simp only [Act.put, st_a, st_0, st_s])
  refine wl_give rfl (g_igtr 3 _ _ .i64 ((((x).size : Nat) : Int)) (1000) true rfl rfl (decide_eq_true h2) ?_)
  (try simp only [Act.put, st_a, st_0, st_s])
  refine wl_give rfl (g_pickf _ _ _ (.bool true) rfl rfl ?_)
  (try simp only [Act.put, st_a, st_0, st_s])
  refine wl_nil ?_
  refine hK8 _ _ ?_
  (try clear hK8 K8)
  refine wp_cond_true rfl ?_
  refine wp_seq_k (fun K10 hK10 => ?_)
  refine wl_region ?_
  refine wl_give rfl (g_assign _ (.bool true) rfl ?_)
  (try simp only [Act.put, st_a, st_0, st_s])
  refine wl_nil ?_
  refine hK10 _ _ ?_
  (try clear hK10 K10)
  refine wp_ret ?_
  go_ret
  exact ⟨rfl, hM.below⟩
set_option maxHeartbeats 4000000 in
theorem walk_4 (s : Ky) (P : Pl) (z : Int) (x : ByteArray) (ao : Option Addr) (n cap : Nat) (w : World) (hT : Tabs w) (hP : POk P) (h1 : ¬ 16 < P.ct) (h2 : ¬ 1000 < ((x.size : Nat) : Int)) (r0 i : Nat) (hi1 : 1 ≤ i) (hi2 : (i : Int) ≤ P.ct) (wz : Shut (IntKind.i64.wrap z = z)) (eR : Shut (z.tmod P.ct = ((r0 : Nat) : Int))) (eI : Shut (IntKind.i64.wrap (((r0 : Nat) : Int) + 1) = ((i : Nat) : Int))) (X Y : Int) (hX : Shut (pbg P ((i : Nat) : Int) = (X, 0))) (bX : -9223372036854775808 ≤ X ∧ X ≤ 9223372036854775807) (bY : -9223372036854775808 ≤ Y ∧ Y ≤ 9223372036854775807) (eY1 : Shut (IntKind.i64.wrap (X + P.lg) = X + P.lg)) (eY2 : Shut (IntKind.i64.wrap (X + P.lg - 1) = Y)) (G : ByteArray) (T : Int) (K : Ky) (hSx : ∀ m : Nat, m ≤ i → sdA s P ((m : Nat) : Int) X x = ((⟨((i : Nat) : Int), x, G, T, K⟩, 0), ((i : Nat) : Int))) (hSy : sdA s P 0 Y x = ((⟨((i : Nat) : Int), x, G, T, K⟩, 0), ((i : Nat) : Int))) (hc : LV OkU w ao n) (hn : n ≤ 9223372036854775807) : Calls Tryd.prog 8 #[.agg (kc s).toArray, .agg (plc P).toArray, .int .u8 z, .string x, .slice ao n cap] w fun e w' => e = .returned (.bool true) ∧ Below w.heap.size w w' := by
  have hM := Ms.refl w
  go_enter Tryd.func8, Tryd.ntmps8
  refine wp_seq_k (fun K1 hK1 => ?_)
  refine wl_region ?_
  refine wl_give rfl (g_box 23 _ (kc (s)) rfl ?_)
  intro w2 t_ b_
  replace hM := hM.new t_ b_
  clear t_ b_
  (try simp only [Act.put, st_a, st_0, st_s])
  refine wl_give rfl (g_box 25 _ (plc (P)) rfl ?_)
  intro w3 t_ b_
  replace hM := hM.new t_ b_
  clear t_ b_
  (try simp only [Act.put, st_a, st_0, st_s])
  refine wl_give rfl (g_assign _ (.bool false) rfl ?_)
  (try simp only [Act.put, st_a, st_0, st_s])
  refine wl_nil ?_
  refine hK1 _ _ ?_
  (try clear hK1 K1)
  refine wp_seq_k (fun K4 hK4 => ?_)
  refine wp_seq_k (fun K5 hK5 => ?_)
  refine wl_region ?_
  refine wl_give rfl (g_call 9 _ _ [] (kf9 _ _) rfl ((awake_any w3 (hM.tabs hT)).mono ?_))
  rintro e w6 ⟨rfl, t_⟩
  refine ⟨_, rfl, ?_⟩
  replace hM := hM.call t_
  clear t_
  (try simp only [Act.put, st_a, st_0, st_s])
  refine wl_give rfl (g_unot 4 _ true rfl ?_)
  (try simp only [Act.put, st_a, st_0, st_s])
  refine wl_nil ?_
  refine hK5 _ _ ?_
  (try clear hK5 K5)
  refine wp_cond_false rfl ?_
  refine wp_skip ?_
  refine hK4 _ _ ?_
  (try clear hK4 K4)
  refine wp_seq_k (fun K7 hK7 => ?_)
  refine wp_seq_k (fun K8 hK8 => ?_)
  refine wl_region ?_
  refine wl_give rfl (g_load_all 25 _ (w2.heap.size) (plc (P)) 25 _ rfl (hM.get 0 rfl) Tryd.underlying25 rfl (szPl _) ?_)
  (try simp only [Act.put, st_a, st_0, st_s])
  refine wl_give rfl (g_call 11 _ _ [.agg (plc (P)).toArray] (kf11 _ _) rfl ((may_yes P w6 hP).mono ?_))
  rintro e w9 ⟨rfl, t_⟩
  refine ⟨_, rfl, ?_⟩
  replace hM := hM.call t_
  clear t_
  (try simp only [Act.put, st_a, st_0, st_s])
  refine wl_give rfl (g_unot 4 _ true rfl ?_)
  (try simp only [Act.put, st_a, st_0, st_s])
  refine wl_give rfl (g_move _ (.bool false) rfl ?_)
  (try simp only [Act.put, st_a, st_0, st_s])
  refine wl_give rfl (g_fa 25 _ (w2.heap.size) (0) (3) 3 rfl (faPl3 _ _ _) ?_)
  (try simp only [Act.put, st_a, st_0, st_s])
  refine wl_give rfl (g_ld1 3 _ (w2.heap.size) (3) _ rfl (ld3 _ _ _ _ ((hM.get 0 rfl).cell (3) _ (rfl))) ?_)
  (try simp only [Act.put, st_a, st_0, st_s])
  refine wl_give rfl (g_igtr 3 _ _ .i64 ((P).ct) (16) false rfl rfl (decide_eq_false h1) ?_)
  (try simp only [Act.put, st_a, st_0, st_s])
  refine wl_give rfl (g_pickf _ _ _ (.bool false) rfl rfl ?_)
  (try simp only [Act.put, st_a, st_0, st_s])
  refine wl_give rfl (g_move _ (.bool false) rfl ?_)
  (try simp only [Act.put, st_a, st_0, st_s])
  refine wl_give rfl (g_move _ (.string (x)) rfl ?_)
  (try simp only [Act.put, st_a, st_0, st_s])
  refine wl_give rfl (g_lenT _ (x) ((((x).size : Nat) : Int)) rfl (rfl) ?_)
  (try simp only [Act.put, st_a, st_0, st_s])
  refine wl_give rfl (g_igtr 3 _ _ .i64 ((((x).size : Nat) : Int)) (1000) false rfl rfl (decide_eq_false h2) ?_)
  (try simp only [Act.put, st_a, st_0, st_s])
  refine wl_give rfl (g_pickf _ _ _ (.bool false) rfl rfl ?_)
  (try simp only [Act.put, st_a, st_0, st_s])
  refine wl_nil ?_
  refine hK8 _ _ ?_
  (try clear hK8 K8)
  refine wp_cond_false rfl ?_
  refine wp_skip ?_
  refine hK7 _ _ ?_
  (try clear hK7 K7)
  refine wp_seq_k (fun K10 hK10 => ?_)
  refine wl_region ?_
  refine wl_give rfl (g_load_all 23 _ (w.heap.size) (kc (s)) 23 _ rfl (hM.get 1 rfl) Tryd.underlying23 rfl (szK _) ?_)
  (try simp only [Act.put, st_a, st_0, st_s])
  refine wl_give rfl (g_load_all 25 _ (w2.heap.size) (plc (P)) 25 _ rfl (hM.get 0 rfl) Tryd.underlying25 rfl (szPl _) ?_)
  (try simp only [Act.put, st_a, st_0, st_s])
  refine wl_give rfl (g_call 10 _ _ [.agg (kc (s)).toArray, .agg (plc (P)).toArray] (kf10 _ _) rfl ((snew_any (s) (P) w w9 _ hM hT hP).mono ?_))
  rintro e w11 ⟨p12, rfl, h_⟩
  refine ⟨_, rfl, ?_⟩
  replace hM : Ms w w11 [sn p12 (s) (P) (0), blk (w2.heap.size) (plc (P)) 25, blk (w.heap.size) (kc (s)) 23] := h_
  clear h_
  (try simp only [Act.put, st_a, st_0, st_s])
  refine wl_give rfl (g_move _ (.tuple #[.pointer (some ⟨p12, 0, none⟩), .int .i64 (0)]) rfl ?_)
  (try simp only [Act.put, st_a, st_0, st_s])
  refine wl_give rfl (g_extract _ #[.pointer (some ⟨p12, 0, none⟩), .int .i64 (0)] 0 (.pointer (some ⟨p12, 0, none⟩)) rfl rfl ?_)
  (try simp only [Act.put, st_a, st_0, st_s])
  refine wl_give rfl (g_extract _ #[.pointer (some ⟨p12, 0, none⟩), .int .i64 (0)] 1 (.int .i64 (0)) rfl rfl ?_)
  (try simp only [Act.put, st_a, st_0, st_s])
  refine wl_give rfl (g_assign _ (.pointer (some ⟨p12, 0, none⟩)) rfl ?_)
  (try simp only [Act.put, st_a, st_0, st_s])
  refine wl_give rfl (g_assign _ (.int .i64 (0)) rfl ?_)
  (try simp only [Act.put, st_a, st_0, st_s])
  refine wl_nil ?_
  refine hK10 _ _ ?_
  (try clear hK10 K10)
  refine wp_seq_k (fun K13 hK13 => ?_)
  refine wl_region ?_
  refine wl_give rfl (g_load_all 23 _ (w.heap.size) (kc (s)) 23 _ rfl (hM.get 2 rfl) Tryd.underlying23 rfl (szK _) ?_)
  (try simp only [Act.put, st_a, st_0, st_s])
  refine wl_give rfl (g_load_all 25 _ (w2.heap.size) (plc (P)) 25 _ rfl (hM.get 1 rfl) Tryd.underlying25 rfl (szPl _) ?_)
  (try simp only [Act.put, st_a, st_0, st_s])
  refine wl_give rfl (g_call 10 _ _ [.agg (kc (s)).toArray, .agg (plc (P)).toArray] (kf10 _ _) rfl ((snew_any (s) (P) w w11 _ hM hT hP).mono ?_))
  rintro e w14 ⟨r15, rfl, h_⟩
  refine ⟨_, rfl, ?_⟩
  replace hM : Ms w w14 [sn r15 (s) (P) (0), sn p12 (s) (P) (0), blk (w2.heap.size) (plc (P)) 25, blk (w.heap.size) (kc (s)) 23] := h_
  clear h_
  (try simp only [Act.put, st_a, st_0, st_s])
  refine wl_give rfl (g_move _ (.tuple #[.pointer (some ⟨r15, 0, none⟩), .int .i64 (0)]) rfl ?_)
  (try simp only [Act.put, st_a, st_0, st_s])
  refine wl_give rfl (g_extract _ #[.pointer (some ⟨r15, 0, none⟩), .int .i64 (0)] 0 (.pointer (some ⟨r15, 0, none⟩)) rfl rfl ?_)
  (try simp only [Act.put, st_a, st_0, st_s])
  refine wl_give rfl (g_extract _ #[.pointer (some ⟨r15, 0, none⟩), .int .i64 (0)] 1 (.int .i64 (0)) rfl rfl ?_)
  (try simp only [Act.put, st_a, st_0, st_s])
  refine wl_give rfl (g_assign _ (.pointer (some ⟨r15, 0, none⟩)) rfl ?_)
  (try simp only [Act.put, st_a, st_0, st_s])
  refine wl_give rfl (g_assign _ (.int .i64 (0)) rfl ?_)
  (try simp only [Act.put, st_a, st_0, st_s])
  refine wl_nil ?_
  refine hK13 _ _ ?_
  (try clear hK13 K13)
  refine wp_seq_k (fun K16 hK16 => ?_)
  refine wp_seq_k (fun K17 hK17 => ?_)
  refine wl_region ?_
  refine wl_give rfl (g_move _ (.pointer (some ⟨p12, 0, none⟩)) rfl ?_)
  (try simp only [Act.put, st_a, st_0, st_s])
  refine wl_give rfl (g_peqS _ ((some ⟨p12, 0, none⟩)) false rfl rfl ?_)
  (try simp only [Act.put, st_a, st_0, st_s])
  refine wl_give rfl (g_move _ (.bool false) rfl ?_)
  (try simp only [Act.put, st_a, st_0, st_s])
  refine wl_give rfl (g_move _ (.pointer (some ⟨r15, 0, none⟩)) rfl ?_)
  (try simp only [Act.put, st_a, st_0, st_s])
  refine wl_give rfl (g_peqS _ ((some ⟨r15, 0, none⟩)) false rfl rfl ?_)
  (try simp only [Act.put, st_a, st_0, st_s])
  refine wl_give rfl (g_pickf _ _ _ (.bool false) rfl rfl ?_)
  (try simp only [Act.put, st_a, st_0, st_s])
  refine wl_nil ?_
  refine hK17 _ _ ?_
  (try clear hK17 K17)
  refine wp_cond_false rfl ?_
  refine wp_skip ?_
  refine hK16 _ _ ?_
  (try clear hK16 K16)
  refine wp_seq_k (fun K18 hK18 => ?_)
  refine wl_region ?_
  refine wl_give rfl (g_move _ (.int .u8 (z)) rfl ?_)
  (try simp only [Act.put, st_a, st_0, st_s])
  refine wl_give rfl (g_cv_5_3 _ (z) (z) rfl (wz.out) ?_)
  (try simp only [Act.put, st_a, st_0, st_s])
  refine wl_give rfl (g_fa 25 _ (w2.heap.size) (0) (3) 3 rfl (faPl3 _ _ _) ?_)
  (try simp only [Act.put, st_a, st_0, st_s])
  refine wl_give rfl (g_ld1 3 _ (w2.heap.size) (3) _ rfl (ld3 _ _ _ _ ((hM.get 2 rfl).cell (3) _ (rfl))) ?_)
  (try simp only [Act.put, st_a, st_0, st_s])
  refine wl_give rfl (g_irem 3 _ _ .i64 (z) (P.ct) (((r0 : Nat) : Int)) rfl rfl (by omega) eR.out ?_)
  (try simp only [Act.put, st_a, st_0, st_s])
  refine wl_give rfl (g_ia 3 _ _ .i64 (((r0 : Nat) : Int)) (1) (((i : Nat) : Int)) rfl rfl eI.out ?_)
  (try simp only [Act.put, st_a, st_0, st_s])
  refine wl_give rfl (g_assign _ (.int .i64 (((i : Nat) : Int))) rfl ?_)
  (try simp only [Act.put, st_a, st_0, st_s])
  refine wl_nil ?_
  refine hK18 _ _ ?_
  (try clear hK18 K18)
  refine wp_seq_k (fun K19 hK19 => ?_)
  refine wl_region ?_
  refine wl_give rfl (g_load_all 25 _ (w2.heap.size) (plc (P)) 25 _ rfl (hM.get 2 rfl) Tryd.underlying25 rfl (szPl _) ?_)
  (try simp only [Act.put, st_a, st_0, st_s])
  refine wl_give rfl (g_move _ (.int .i64 (((i : Nat) : Int))) rfl ?_)
  (try simp only [Act.put, st_a, st_0, st_s])
  refine wl_give rfl (g_call 24 _ _ [.agg (plc (P)).toArray, .int .i64 (((i : Nat) : Int))] (kf24 _ _) rfl ((pbegins_any P ((i : Nat) : Int) w14 X 0 hX).mono ?_))
  rintro e w20 ⟨rfl, t_⟩
  refine ⟨_, rfl, ?_⟩
  replace hM := hM.call t_
  clear t_
  (try simp only [Act.put, st_a, st_0, st_s])
  refine wl_give rfl (g_move _ (.tuple #[.int .i64 (X), .int .i64 (0)]) rfl ?_)
  (try simp only [Act.put, st_a, st_0, st_s])
  refine wl_give rfl (g_extract _ #[.int .i64 (X), .int .i64 (0)] 0 (.int .i64 (X)) rfl rfl ?_)
  (try simp only [Act.put, st_a, st_0, st_s])
  refine wl_give rfl (g_extract _ #[.int .i64 (X), .int .i64 (0)] 1 (.int .i64 (0)) rfl rfl ?_)
  (try simp only [Act.put, st_a, st_0, st_s])
  refine wl_give rfl (g_assign _ (.int .i64 (X)) rfl ?_)
  (try simp only [Act.put, st_a, st_0, st_s])
  refine wl_give rfl (g_assign _ (.int .i64 (0)) rfl ?_)
  (try simp only [Act.put, st_a, st_0, st_s])
  refine wl_nil ?_
  refine hK19 _ _ ?_
  (try clear hK19 K19)
  refine wp_seq_k (fun K21 hK21 => ?_)
  refine wl_region ?_
  refine wl_give rfl (g_assign _ (.int .i64 (0)) rfl ?_)
  (try simp only [Act.put, st_a, st_0, st_s])
  refine wl_nil ?_
  refine hK21 _ _ ?_
  (try clear hK21 K21)
  refine wp_seq_k (fun K22 hK22 => ?_)
  refine wp_seq_k (fun K23 hK23 => ?_)
  refine wl_region ?_
  refine wl_give rfl (g_assign _ (.int .i64 (0)) rfl ?_)
  (try simp only [Act.put, st_a, st_0, st_s])
  refine wl_nil ?_
  refine hK23 _ _ ?_
  (try clear hK23 K23)
  refine wp_block ?_
  go_loopw [18, 19] (fun v18 v19 wr => ∃ (j m : Nat), j ≤ n ∧ m ≤ i ∧ v18 = .int .i64 ((m : Nat) : Int) ∧ v19 = .int .i64 ((j : Nat) : Int) ∧ Ms w wr [sn r15 (s) (P) (0), sn p12 (s) (P) (((m : Nat) : Int)), blk (w2.heap.size) (plc (P)) 25, blk (w.heap.size) (kc (s)) 23]) (fun _ v19 _ => (n - intOf v19).toNat)
  case atStart => exact ⟨0, 0, Nat.zero_le _, Nat.zero_le _, rfl, rfl, hM⟩
  case round =>
    clear hM
    obtain ⟨j, m, hj, hm, rfl, rfl, hM⟩ := hrel
    by_cases hjn : j < n
    · by_cases h20 : (j : Int) < 20
      · skip
        obtain ⟨b, o, v, eao, c0, c, ev, hc0, hc1⟩ := hc j hjn
        subst eao
        subst ev
        obtain ⟨r, er, hr⟩ := rem_nat c i (by omega) hc0
        obtain ⟨m2, em2⟩ : ∃ m2 : Nat, max m (r + 1) = m2 := ⟨_, rfl⟩
        have ej : Shut (IntKind.i64.wrap (((j : Nat) : Int) + 1) = ((j + 1 : Nat) : Int)) := ⟨by rw [wrap_id _ (by omega) (by omega)]; omega⟩
        have wc : Shut (IntKind.i64.wrap c = c) := ⟨wrap_id _ (by omega) (by omega)⟩
        have erS : Shut (c.tmod ((i : Nat) : Int) = ((r : Nat) : Int)) := ⟨er⟩
        have er1 : Shut (IntKind.i64.wrap (((r : Nat) : Int) + 1) = ((r + 1 : Nat) : Int)) := ⟨by rw [wrap_id _ (by omega) (by omega)]; omega⟩
        have emx : Shut (max ((m : Nat) : Int) ((r + 1 : Nat) : Int) = ((m2 : Nat) : Int)) := ⟨by omega⟩
        have hb2 : Shut (pbg P ((m2 : Nat) : Int) = (bgn P ((m2 : Nat) : Int), 0)) := ⟨by unfold pbg; rw [if_pos ⟨hP, by omega, by omega⟩]⟩
        have bb := bgn_bd hP (i := ((m2 : Nat) : Int)) (by omega) (by omega)
        have hp2 : pat P (bgn P ((m2 : Nat) : Int)) = (((m2 : Nat) : Int), 0) := pat_in hP (by omega) (by omega) (Int.le_refl _) (by rw [bgn_succ]; omega)
        have hS2 := sdA_ok s P ((m : Nat) : Int) (bgn P ((m2 : Nat) : Int)) ((m2 : Nat) : Int) _ ⟨#[97, 104, 101, 97, 100]⟩ hp2 (by omega) (by decide) rfl
        obtain ⟨G2, eG2⟩ : ∃ G2, tgs (kyk s P ((m2 : Nat) : Int)) ((m2 : Nat) : Int) ⟨#[97, 104, 101, 97, 100]⟩ = G2 := ⟨_, rfl⟩
        obtain ⟨T2, eT2⟩ : ∃ T2, pte P ((m2 : Nat) : Int) = T2 := ⟨_, rfl⟩
        obtain ⟨K2, eK2⟩ : ∃ K2, (if 0 < T2 then kyk s P T2 else zk) = K2 := ⟨_, rfl⟩
        rw [eG2, eT2, eK2] at hS2
        clear eG2 eT2 eK2 hp2
        refine wp_seq_k (fun K24 hK24 => ?_)
        refine wp_seq_k (fun K25 hK25 => ?_)
        refine wl_region ?_
        refine wl_give rfl (g_move _ (.int .i64 (((j : Nat) : Int))) rfl ?_)
        (try simp only [Act.put, st_a, st_0, st_s])
        refine wl_give rfl (g_move _ (.slice (some ⟨b, o, none⟩) (n) (cap)) rfl ?_)
        (try simp only [Act.put, st_a, st_0, st_s])
        refine wl_give rfl (g_len _ 58 5 ((some ⟨b, o, none⟩)) (n) (cap) (((n : Nat) : Int)) Tryd.underlying58 rfl (rfl) ?_)
        (try simp only [Act.put, st_a, st_0, st_s])
        refine wl_give rfl (g_ilss 3 _ _ .i64 (((j : Nat) : Int)) (((n : Nat) : Int)) true rfl rfl (decide_eq_true (by omega)) ?_)
        (try simp only [Act.put, st_a, st_0, st_s])
        refine wl_give rfl (g_move _ (.bool true) rfl ?_)
        (try simp only [Act.put, st_a, st_0, st_s])
        refine wl_give rfl (g_move _ (.int .i64 (((j : Nat) : Int))) rfl ?_)
        (try simp only [Act.put, st_a, st_0, st_s])
        refine wl_give rfl (g_ilss 3 _ _ .i64 (((j : Nat) : Int)) (20) true rfl rfl (decide_eq_true h20) ?_)
        (try simp only [Act.put, st_a, st_0, st_s])
        refine wl_give rfl (g_pickt _ _ _ (.bool true) rfl rfl ?_)
        (try simp only [Act.put, st_a, st_0, st_s])
        refine wl_nil ?_
        refine hK25 _ _ ?_
        (try clear hK25 K25)
        refine wp_cond_true rfl ?_
        refine wp_skip ?_
        refine hK24 _ _ ?_
        (try clear hK24 K24)
        refine wp_seq_k (fun K26 hK26 => ?_)
        refine wp_block ?_
        refine wp_seq_k (fun K27 hK27 => ?_)
        refine wl_region ?_
        refine wl_give rfl (g_move _ (.int .i64 (((m : Nat) : Int))) rfl ?_)
        (try simp only [Act.put, st_a, st_0, st_s])
        refine wl_give rfl (g_move _ (.slice (some ⟨b, o, none⟩) (n) (cap)) rfl ?_)
        (try simp only [Act.put, st_a, st_0, st_s])
        refine wl_give rfl (g_move _ (.int .i64 (((j : Nat) : Int))) rfl ?_)
        (try simp only [Act.put, st_a, st_0, st_s])
        refine wl_give rfl (g_ix _ _ 58 5 1 Tryd.underlying58 szof5 b o n cap j (o + j) _ rfl rfl rfl hjn (by omega) ?_)
        (try simp only [Act.put, st_a, st_0, st_s])
        refine wl_give rfl (g_ld1 5 _ b (o + j) _ rfl (ld5 _ _ _ _ (cell_on hM c0)) ?_)
        (try simp only [Act.put, st_a, st_0, st_s])
        refine wl_give rfl (g_cv_5_3 _ (c) (c) rfl (wc.out) ?_)
        (try simp only [Act.put, st_a, st_0, st_s])
        refine wl_give rfl (g_move _ (.int .i64 (((i : Nat) : Int))) rfl ?_)
        (try simp only [Act.put, st_a, st_0, st_s])
        refine wl_give rfl (g_irem 3 _ _ .i64 (c) (((i : Nat) : Int)) (((r : Nat) : Int)) rfl rfl (by omega) erS.out ?_)
        (try simp only [Act.put, st_a, st_0, st_s])
        refine wl_give rfl (g_ia 3 _ _ .i64 (((r : Nat) : Int)) (1) (((r + 1 : Nat) : Int)) rfl rfl er1.out ?_)
        (try simp only [Act.put, st_a, st_0, st_s])
        refine wl_give rfl (g_max _ _ (((m : Nat) : Int)) (((r + 1 : Nat) : Int)) (((m2 : Nat) : Int)) rfl rfl (emx.out) ?_)
        (try simp only [Act.put, st_a, st_0, st_s])
        refine wl_give rfl (g_assign _ (.int .i64 (((m2 : Nat) : Int))) rfl ?_)
        (try simp only [Act.put, st_a, st_0, st_s])
        refine wl_nil ?_
        refine hK27 _ _ ?_
        (try clear hK27 K27)
        refine wp_seq_k (fun K28 hK28 => ?_)
        refine wl_region ?_
        refine wl_give rfl (g_load_all 25 _ (w2.heap.size) (plc (P)) 25 _ rfl (hM.get 2 rfl) Tryd.underlying25 rfl (szPl _) ?_)
        (try simp only [Act.put, st_a, st_0, st_s])
        refine wl_give rfl (g_move _ (.int .i64 (((m2 : Nat) : Int))) rfl ?_)
        (try simp only [Act.put, st_a, st_0, st_s])
        refine wl_give rfl (g_call 24 _ _ [.agg (plc (P)).toArray, .int .i64 (((m2 : Nat) : Int))] (kf24 _ _) rfl ((pbegins_any P ((m2 : Nat) : Int) wr _ _ hb2).mono ?_))
        rintro e w29 ⟨rfl, t_⟩
        refine ⟨_, rfl, ?_⟩
        replace hM := hM.call t_
        clear t_
        (try simp only [Act.put, st_a, st_0, st_s])
        refine wl_give rfl (g_move _ (.tuple #[.int .i64 (bgn P ((m2 : Nat) : Int)), .int .i64 (0)]) rfl ?_)
        (try simp only [Act.put, st_a, st_0, st_s])
        refine wl_give rfl (g_extract _ #[.int .i64 (bgn P ((m2 : Nat) : Int)), .int .i64 (0)] 0 (.int .i64 (bgn P ((m2 : Nat) : Int))) rfl rfl ?_)
        (try simp only [Act.put, st_a, st_0, st_s])
        refine wl_give rfl (g_extract _ #[.int .i64 (bgn P ((m2 : Nat) : Int)), .int .i64 (0)] 1 (.int .i64 (0)) rfl rfl ?_)
        (try simp only [Act.put, st_a, st_0, st_s])
        refine wl_give rfl (g_assign _ (.int .i64 (bgn P ((m2 : Nat) : Int))) rfl ?_)
        (try simp only [Act.put, st_a, st_0, st_s])
        refine wl_give rfl (g_assign _ (.int .i64 (0)) rfl ?_)
        (try simp only [Act.put, st_a, st_0, st_s])
        refine wl_nil ?_
        refine hK28 _ _ ?_
        (try clear hK28 K28)
        refine wp_seq_k (fun K30 hK30 => ?_)
        refine wl_region ?_
        refine wl_give rfl (g_move _ (.pointer (some ⟨p12, 0, none⟩)) rfl ?_)
        (try simp only [Act.put, st_a, st_0, st_s])
        refine wl_give rfl (g_move _ (.int .i64 (bgn P ((m2 : Nat) : Int))) rfl ?_)
        (try simp only [Act.put, st_a, st_0, st_s])
        refine wl_give rfl (g_call 15 _ _ [.pointer (some ⟨p12, 0, none⟩), .int .i64 (bgn P ((m2 : Nat) : Int)), .string (⟨#[97, 104, 101, 97, 100]⟩)] (kf15 _ _) rfl ((send_any (show Ms w w29 [sn p12 (s) (P) (((m : Nat) : Int)), sn r15 (s) (P) (0), blk (w2.heap.size) (plc (P)) 25, blk (w.heap.size) (kc (s)) 23] from (hM.up 1 rfl)) hT (bgn P ((m2 : Nat) : Int)) ⟨by omega, by omega⟩ (⟨#[97, 104, 101, 97, 100]⟩) (((m2 : Nat) : Int)) (⟨#[97, 104, 101, 97, 100]⟩) (G2) (T2) (K2) (0) (((m2 : Nat) : Int)) ⟨hS2⟩).mono ?_))
        rintro e w31 ⟨rfl, h_⟩
        refine ⟨_, rfl, ?_⟩
        replace hM : Ms w w31 [sn p12 (s) (P) (((m2 : Nat) : Int)), sn r15 (s) (P) (0), blk (w2.heap.size) (plc (P)) 25, blk (w.heap.size) (kc (s)) 23] := h_
        clear h_
        (try simp only [Act.put, st_a, st_0, st_s])
        refine wl_give rfl (g_move _ (.tuple #[.agg (pkc (((m2 : Nat) : Int)) (⟨#[97, 104, 101, 97, 100]⟩) (G2) (T2) (K2)).toArray, .int .i64 (0)]) rfl ?_)
        (try simp only [Act.put, st_a, st_0, st_s])
        refine wl_give rfl (g_extract _ #[.agg (pkc (((m2 : Nat) : Int)) (⟨#[97, 104, 101, 97, 100]⟩) (G2) (T2) (K2)).toArray, .int .i64 (0)] 0 (.agg (pkc (((m2 : Nat) : Int)) (⟨#[97, 104, 101, 97, 100]⟩) (G2) (T2) (K2)).toArray) rfl rfl ?_)
        (try simp only [Act.put, st_a, st_0, st_s])
        refine wl_give rfl (g_extract _ #[.agg (pkc (((m2 : Nat) : Int)) (⟨#[97, 104, 101, 97, 100]⟩) (G2) (T2) (K2)).toArray, .int .i64 (0)] 1 (.int .i64 (0)) rfl rfl ?_)
        (try simp only [Act.put, st_a, st_0, st_s])
        refine wl_give rfl (g_alloc 44 (pkc (0) (⟨#[]⟩) (⟨#[]⟩) (0) (zk)) zeroPk ?_)
        intro w32 t_ b_
        replace hM := hM.new t_ b_
        clear t_ b_
        (try simp only [Act.put, st_a, st_0, st_s])
        refine wl_give rfl (g_store_all 44 _ _ (w31.heap.size) (pkc (((m2 : Nat) : Int)) (⟨#[97, 104, 101, 97, 100]⟩) (G2) (T2) (K2)) _ 44 rfl rfl (hM.get 0 rfl) (szPk _ _ _ _ _) (kk2_len _ _ _ _ _ _ _ _ _ _) (one_pkc _ _ _ _ _) ?_)
        intro w33 t_ b_
        replace hM : Ms w w33 [blk (w31.heap.size) (pkc (((m2 : Nat) : Int)) (⟨#[97, 104, 101, 97, 100]⟩) (G2) (T2) (K2)) 44, sn p12 (s) (P) (((m2 : Nat) : Int)), sn r15 (s) (P) (0), blk (w2.heap.size) (plc (P)) 25, blk (w.heap.size) (kc (s)) 23] := hM.put 0 rfl t_ b_
        clear t_ b_
        (try simp only [Act.put, st_a, st_0, st_s])
        refine wl_give rfl (g_assign _ (.int .i64 (0)) rfl ?_)
        (try simp only [Act.put, st_a, st_0, st_s])
        refine wl_nil ?_
        refine hK30 _ _ ?_
        (try clear hK30 K30)
        refine wp_seq_k (fun K34 hK34 => ?_)
        refine wl_region ?_
        refine wl_give rfl (g_move _ (.int .i64 (0)) rfl ?_)
        (try simp only [Act.put, st_a, st_0, st_s])
        refine wl_give rfl (g_ine 29 _ _ .i64 (0) (0) false rfl rfl (by decide) ?_)
        (try simp only [Act.put, st_a, st_0, st_s])
        refine wl_nil ?_
        refine hK34 _ _ ?_
        (try clear hK34 K34)
        refine wp_cond_false rfl ?_
        refine wp_skip ?_
        refine hK26 _ _ ?_
        (try clear hK26 K26)
        refine wl_region ?_
        refine wl_give rfl (g_move _ (.int .i64 (((j : Nat) : Int))) rfl ?_)
        (try simp only [Act.put, st_a, st_0, st_s])
        refine wl_give rfl (g_ia 3 _ _ .i64 (((j : Nat) : Int)) (1) (((j + 1 : Nat) : Int)) rfl rfl ej.out ?_)
        (try simp only [Act.put, st_a, st_0, st_s])
        refine wl_give rfl (g_assign _ (.int .i64 (((j + 1 : Nat) : Int))) rfl ?_)
        (try simp only [Act.put, st_a, st_0, st_s])
        refine wl_nil ?_
        (try simp only [Exit.then, Exit.inBlock, ↓reduceIte, Nat.reduceEqDiff])
        go_roundw
        case rel => exact ⟨j + 1, m2, by omega, by omega, rfl, rfl, (((((hM.erase 0).up 3 rfl).up 3 rfl).up 2 rfl).up 3 rfl)⟩
        case measure => simp [intOf]; omega
      · skip
        refine wp_seq_k (fun K35 hK35 => ?_)
        refine wp_seq_k (fun K36 hK36 => ?_)
        refine wl_region ?_
        refine wl_give rfl (g_move _ (.int .i64 (((j : Nat) : Int))) rfl ?_)
        (try simp only [Act.put, st_a, st_0, st_s])
        refine wl_give rfl (g_move _ (.slice ao (n) (cap)) rfl ?_)
        (try simp only [Act.put, st_a, st_0, st_s])
        refine wl_give rfl (g_len _ 58 5 (ao) (n) (cap) (((n : Nat) : Int)) Tryd.underlying58 rfl (rfl) ?_)
        (try simp only [Act.put, st_a, st_0, st_s])
        refine wl_give rfl (g_ilss 3 _ _ .i64 (((j : Nat) : Int)) (((n : Nat) : Int)) true rfl rfl (decide_eq_true (by omega)) ?_)
        (try simp only [Act.put, st_a, st_0, st_s])
        refine wl_give rfl (g_move _ (.bool true) rfl ?_)
        (try simp only [Act.put, st_a, st_0, st_s])
        refine wl_give rfl (g_move _ (.int .i64 (((j : Nat) : Int))) rfl ?_)
        (try simp only [Act.put, st_a, st_0, st_s])
        refine wl_give rfl (g_ilss 3 _ _ .i64 (((j : Nat) : Int)) (20) false rfl rfl (decide_eq_false h20) ?_)
        (try simp only [Act.put, st_a, st_0, st_s])
        refine wl_give rfl (g_pickt _ _ _ (.bool false) rfl rfl ?_)
        (try simp only [Act.put, st_a, st_0, st_s])
        refine wl_nil ?_
        refine hK36 _ _ ?_
        (try clear hK36 K36)
        refine wp_cond_false rfl ?_
        refine wp_exit ?_
        refine hK22 _ _ ?_
        (try clear hK22 K22)
        refine wp_seq_k (fun K37 hK37 => ?_)
        refine wl_region ?_
        refine wl_give rfl (g_move _ (.pointer (some ⟨p12, 0, none⟩)) rfl ?_)
        (try simp only [Act.put, st_a, st_0, st_s])
        refine wl_give rfl (g_move _ (.int .i64 (X)) rfl ?_)
        (try simp only [Act.put, st_a, st_0, st_s])
        refine wl_give rfl (g_move _ (.string (x)) rfl ?_)
        (try simp only [Act.put, st_a, st_0, st_s])
        refine wl_give rfl (g_call 15 _ _ [.pointer (some ⟨p12, 0, none⟩), .int .i64 (X), .string (x)] (kf15 _ _) rfl ((send_any (show Ms w wr [sn p12 (s) (P) (((m : Nat) : Int)), sn r15 (s) (P) (0), blk (w2.heap.size) (plc (P)) 25, blk (w.heap.size) (kc (s)) 23] from (hM.up 1 rfl)) hT (X) bX (x) (((i : Nat) : Int)) (x) (G) (T) (K) (0) (((i : Nat) : Int)) ⟨hSx m hm⟩).mono ?_))
        rintro e w38 ⟨rfl, h_⟩
        refine ⟨_, rfl, ?_⟩
        replace hM : Ms w w38 [sn p12 (s) (P) (((i : Nat) : Int)), sn r15 (s) (P) (0), blk (w2.heap.size) (plc (P)) 25, blk (w.heap.size) (kc (s)) 23] := h_
        clear h_
        (try simp only [Act.put, st_a, st_0, st_s])
        refine wl_give rfl (g_move _ (.tuple #[.agg (pkc (((i : Nat) : Int)) (x) (G) (T) (K)).toArray, .int .i64 (0)]) rfl ?_)
        (try simp only [Act.put, st_a, st_0, st_s])
        refine wl_give rfl (g_extract _ #[.agg (pkc (((i : Nat) : Int)) (x) (G) (T) (K)).toArray, .int .i64 (0)] 0 (.agg (pkc (((i : Nat) : Int)) (x) (G) (T) (K)).toArray) rfl rfl ?_)
        (try simp only [Act.put, st_a, st_0, st_s])
        refine wl_give rfl (g_extract _ #[.agg (pkc (((i : Nat) : Int)) (x) (G) (T) (K)).toArray, .int .i64 (0)] 1 (.int .i64 (0)) rfl rfl ?_)
        (try simp only [Act.put, st_a, st_0, st_s])
        refine wl_give rfl (g_alloc 44 (pkc (0) (⟨#[]⟩) (⟨#[]⟩) (0) (zk)) zeroPk ?_)
        intro w39 t_ b_
        replace hM := hM.new t_ b_
        clear t_ b_
        (try simp only [Act.put, st_a, st_0, st_s])
        refine wl_give rfl (g_store_all 44 _ _ (w38.heap.size) (pkc (((i : Nat) : Int)) (x) (G) (T) (K)) _ 44 rfl rfl (hM.get 0 rfl) (szPk _ _ _ _ _) (kk2_len _ _ _ _ _ _ _ _ _ _) (one_pkc _ _ _ _ _) ?_)
        intro w40 t_ b_
        replace hM : Ms w w40 [blk (w38.heap.size) (pkc (((i : Nat) : Int)) (x) (G) (T) (K)) 44, sn p12 (s) (P) (((i : Nat) : Int)), sn r15 (s) (P) (0), blk (w2.heap.size) (plc (P)) 25, blk (w.heap.size) (kc (s)) 23] := hM.put 0 rfl t_ b_
        clear t_ b_
        (try simp only [Act.put, st_a, st_0, st_s])
        refine wl_give rfl (g_assign _ (.int .i64 (0)) rfl ?_)
        (try simp only [Act.put, st_a, st_0, st_s])
        refine wl_nil ?_
        refine hK37 _ _ ?_
        (try clear hK37 K37)
        refine wp_seq_k (fun K41 hK41 => ?_)
        refine wl_region ?_
        refine wl_give rfl (g_move _ (.pointer (some ⟨r15, 0, none⟩)) rfl ?_)
        (try simp only [Act.put, st_a, st_0, st_s])
        refine wl_give rfl (g_move _ (.int .i64 (X)) rfl ?_)
        (try simp only [Act.put, st_a, st_0, st_s])
        refine wl_give rfl (g_fa 25 _ (w2.heap.size) (0) (1) 1 rfl (faPl1 _ _ _) ?_)
        (try simp only [Act.put, st_a, st_0, st_s])
        refine wl_give rfl (g_ld1 2 _ (w2.heap.size) (1) _ rfl (ld2 _ _ _ _ ((hM.get 3 rfl).cell (1) _ (rfl))) ?_)
        (try simp only [Act.put, st_a, st_0, st_s])
        refine wl_give rfl (g_ia 2 _ _ .i64 (X) (P.lg) (X + P.lg) rfl rfl eY1.out ?_)
        (try simp only [Act.put, st_a, st_0, st_s])
        refine wl_give rfl (g_isub 2 _ _ .i64 (X + P.lg) (1) (Y) rfl rfl eY2.out ?_)
        (try simp only [Act.put, st_a, st_0, st_s])
        refine wl_give rfl (g_move _ (.string (x)) rfl ?_)
        (try simp only [Act.put, st_a, st_0, st_s])
        refine wl_give rfl (g_call 15 _ _ [.pointer (some ⟨r15, 0, none⟩), .int .i64 (Y), .string (x)] (kf15 _ _) rfl ((send_any (show Ms w w40 [sn r15 (s) (P) (0), blk (w38.heap.size) (pkc (((i : Nat) : Int)) (x) (G) (T) (K)) 44, sn p12 (s) (P) (((i : Nat) : Int)), blk (w2.heap.size) (plc (P)) 25, blk (w.heap.size) (kc (s)) 23] from (hM.up 2 rfl)) hT (Y) bY (x) (((i : Nat) : Int)) (x) (G) (T) (K) (0) (((i : Nat) : Int)) ⟨hSy⟩).mono ?_))
        rintro e w42 ⟨rfl, h_⟩
        refine ⟨_, rfl, ?_⟩
        replace hM : Ms w w42 [sn r15 (s) (P) (((i : Nat) : Int)), blk (w38.heap.size) (pkc (((i : Nat) : Int)) (x) (G) (T) (K)) 44, sn p12 (s) (P) (((i : Nat) : Int)), blk (w2.heap.size) (plc (P)) 25, blk (w.heap.size) (kc (s)) 23] := h_
        clear h_
        (try simp only [Act.put, st_a, st_0, st_s])
        refine wl_give rfl (g_move _ (.tuple #[.agg (pkc (((i : Nat) : Int)) (x) (G) (T) (K)).toArray, .int .i64 (0)]) rfl ?_)
        (try simp only [Act.put, st_a, st_0, st_s])
        refine wl_give rfl (g_extract _ #[.agg (pkc (((i : Nat) : Int)) (x) (G) (T) (K)).toArray, .int .i64 (0)] 0 (.agg (pkc (((i : Nat) : Int)) (x) (G) (T) (K)).toArray) rfl rfl ?_)
        (try simp only [Act.put, st_a, st_0, st_s])
        refine wl_give rfl (g_extract _ #[.agg (pkc (((i : Nat) : Int)) (x) (G) (T) (K)).toArray, .int .i64 (0)] 1 (.int .i64 (0)) rfl rfl ?_)
        (try simp only [Act.put, st_a, st_0, st_s])
        refine wl_give rfl (g_alloc 44 (pkc (0) (⟨#[]⟩) (⟨#[]⟩) (0) (zk)) zeroPk ?_)
        intro w43 t_ b_
        replace hM := hM.new t_ b_
        clear t_ b_
        (try simp only [Act.put, st_a, st_0, st_s])
        refine wl_give rfl (g_store_all 44 _ _ (w42.heap.size) (pkc (((i : Nat) : Int)) (x) (G) (T) (K)) _ 44 rfl rfl (hM.get 0 rfl) (szPk _ _ _ _ _) (kk2_len _ _ _ _ _ _ _ _ _ _) (one_pkc _ _ _ _ _) ?_)
        intro w44 t_ b_
        replace hM : Ms w w44 [blk (w42.heap.size) (pkc (((i : Nat) : Int)) (x) (G) (T) (K)) 44, sn r15 (s) (P) (((i : Nat) : Int)), blk (w38.heap.size) (pkc (((i : Nat) : Int)) (x) (G) (T) (K)) 44, sn p12 (s) (P) (((i : Nat) : Int)), blk (w2.heap.size) (plc (P)) 25, blk (w.heap.size) (kc (s)) 23] := hM.put 0 rfl t_ b_
        clear t_ b_
        (try simp only [Act.put, st_a, st_0, st_s])
        refine wl_give rfl (g_assign _ (.int .i64 (0)) rfl ?_)
        (try simp only [Act.put, st_a, st_0, st_s])
        refine wl_nil ?_
        refine hK41 _ _ ?_
        (try clear hK41 K41)
        refine wp_seq_k (fun K45 hK45 => ?_)
        refine wl_region ?_
        refine wl_give rfl (g_move _ (.pointer (some ⟨p12, 0, none⟩)) rfl ?_)
        (try simp only [Act.put, st_a, st_0, st_s])
        refine wl_give rfl (g_move _ (.int .i64 (X)) rfl ?_)
        (try simp only [Act.put, st_a, st_0, st_s])
        refine wl_give rfl (g_move _ (.string (x)) rfl ?_)
        (try simp only [Act.put, st_a, st_0, st_s])
        refine wl_give rfl (g_call 15 _ _ [.pointer (some ⟨p12, 0, none⟩), .int .i64 (X), .string (x)] (kf15 _ _) rfl ((send_any (show Ms w w44 [sn p12 (s) (P) (((i : Nat) : Int)), blk (w42.heap.size) (pkc (((i : Nat) : Int)) (x) (G) (T) (K)) 44, sn r15 (s) (P) (((i : Nat) : Int)), blk (w38.heap.size) (pkc (((i : Nat) : Int)) (x) (G) (T) (K)) 44, blk (w2.heap.size) (plc (P)) 25, blk (w.heap.size) (kc (s)) 23] from (hM.up 3 rfl)) hT (X) bX (x) (((i : Nat) : Int)) (x) (G) (T) (K) (0) (((i : Nat) : Int)) ⟨hSx i (Nat.le_refl _)⟩).mono ?_))
        rintro e w46 ⟨rfl, h_⟩
        refine ⟨_, rfl, ?_⟩
        replace hM : Ms w w46 [sn p12 (s) (P) (((i : Nat) : Int)), blk (w42.heap.size) (pkc (((i : Nat) : Int)) (x) (G) (T) (K)) 44, sn r15 (s) (P) (((i : Nat) : Int)), blk (w38.heap.size) (pkc (((i : Nat) : Int)) (x) (G) (T) (K)) 44, blk (w2.heap.size) (plc (P)) 25, blk (w.heap.size) (kc (s)) 23] := h_
        clear h_
        (try simp only [Act.put, st_a, st_0, st_s])
        refine wl_give rfl (g_move _ (.tuple #[.agg (pkc (((i : Nat) : Int)) (x) (G) (T) (K)).toArray, .int .i64 (0)]) rfl ?_)
        (try simp only [Act.put, st_a, st_0, st_s])
        refine wl_give rfl (g_extract _ #[.agg (pkc (((i : Nat) : Int)) (x) (G) (T) (K)).toArray, .int .i64 (0)] 0 (.agg (pkc (((i : Nat) : Int)) (x) (G) (T) (K)).toArray) rfl rfl ?_)
        (try simp only [Act.put, st_a, st_0, st_s])
        refine wl_give rfl (g_extract _ #[.agg (pkc (((i : Nat) : Int)) (x) (G) (T) (K)).toArray, .int .i64 (0)] 1 (.int .i64 (0)) rfl rfl ?_)
        (try simp only [Act.put, st_a, st_0, st_s])
        refine wl_give rfl (g_alloc 44 (pkc (0) (⟨#[]⟩) (⟨#[]⟩) (0) (zk)) zeroPk ?_)
        intro w47 t_ b_
        replace hM := hM.new t_ b_
        clear t_ b_
        (try simp only [Act.put, st_a, st_0, st_s])
        refine wl_give rfl (g_store_all 44 _ _ (w46.heap.size) (pkc (((i : Nat) : Int)) (x) (G) (T) (K)) _ 44 rfl rfl (hM.get 0 rfl) (szPk _ _ _ _ _) (kk2_len _ _ _ _ _ _ _ _ _ _) (one_pkc _ _ _ _ _) ?_)
        intro w48 t_ b_
        replace hM : Ms w w48 [blk (w46.heap.size) (pkc (((i : Nat) : Int)) (x) (G) (T) (K)) 44, sn p12 (s) (P) (((i : Nat) : Int)), blk (w42.heap.size) (pkc (((i : Nat) : Int)) (x) (G) (T) (K)) 44, sn r15 (s) (P) (((i : Nat) : Int)), blk (w38.heap.size) (pkc (((i : Nat) : Int)) (x) (G) (T) (K)) 44, blk (w2.heap.size) (plc (P)) 25, blk (w.heap.size) (kc (s)) 23] := hM.put 0 rfl t_ b_
        clear t_ b_
        (try simp only [Act.put, st_a, st_0, st_s])
        refine wl_give rfl (g_assign _ (.int .i64 (0)) rfl ?_)
        (try simp only [Act.put, st_a, st_0, st_s])
        refine wl_nil ?_
        refine hK45 _ _ ?_
        (try clear hK45 K45)
        refine wp_seq_k (fun K49 hK49 => ?_)
        refine wl_region ?_
        refine wl_give rfl (g_move _ (.int .i64 (0)) rfl ?_)
        (try simp only [Act.put, st_a, st_0, st_s])
        refine wl_give rfl (g_ieq 29 _ _ .i64 (0) (0) true rfl rfl (by decide) ?_)
        (try simp only [Act.put, st_a, st_0, st_s])
        refine wl_give rfl (g_move _ (.bool true) rfl ?_)
        (try simp only [Act.put, st_a, st_0, st_s])
        refine wl_give rfl (g_move _ (.int .i64 (0)) rfl ?_)
        (try simp only [Act.put, st_a, st_0, st_s])
        refine wl_give rfl (g_ieq 29 _ _ .i64 (0) (0) true rfl rfl (by decide) ?_)
        (try simp only [Act.put, st_a, st_0, st_s])
        refine wl_give rfl (g_pickt _ _ _ (.bool true) rfl rfl ?_)
        (try simp only [Act.put, st_a, st_0, st_s])
        refine wl_give rfl (g_move _ (.bool true) rfl ?_)
        (try simp only [Act.put, st_a, st_0, st_s])
        refine wl_give rfl (g_move _ (.int .i64 (0)) rfl ?_)
        (try simp only [Act.put, st_a, st_0, st_s])
        refine wl_give rfl (g_ieq 29 _ _ .i64 (0) (0) true rfl rfl (by decide) ?_)
        (try simp only [Act.put, st_a, st_0, st_s])
        refine wl_give rfl (g_pickt _ _ _ (.bool true) rfl rfl ?_)
        (try simp only [Act.put, st_a, st_0, st_s])
        refine wl_give rfl (g_move _ (.bool true) rfl ?_)
        (try simp only [Act.put, st_a, st_0, st_s])
        refine wl_give rfl (g_load_all 44 _ (w38.heap.size) (pkc (((i : Nat) : Int)) (x) (G) (T) (K)) 44 _ rfl (hM.get 4 rfl) Tryd.underlying44 rfl (szPk _ _ _ _ _) ?_)
        (try simp only [Act.put, st_a, st_0, st_s])
        refine wl_give rfl (g_load_all 44 _ (w42.heap.size) (pkc (((i : Nat) : Int)) (x) (G) (T) (K)) 44 _ rfl (hM.get 2 rfl) Tryd.underlying44 rfl (szPk _ _ _ _ _) ?_)
        (try simp only [Act.put, st_a, st_0, st_s])
        refine wl_give rfl (g_pkE _ _ (((i : Nat) : Int)) (x) (G) (T) (K) rfl rfl ?_)
        (try simp only [Act.put, st_a, st_0, st_s])
        refine wl_give rfl (g_pickt _ _ _ (.bool true) rfl rfl ?_)
        (try simp only [Act.put, st_a, st_0, st_s])
        refine wl_give rfl (g_move _ (.bool true) rfl ?_)
        (try simp only [Act.put, st_a, st_0, st_s])
        refine wl_give rfl (g_load_all 44 _ (w38.heap.size) (pkc (((i : Nat) : Int)) (x) (G) (T) (K)) 44 _ rfl (hM.get 4 rfl) Tryd.underlying44 rfl (szPk _ _ _ _ _) ?_)
        (try simp only [Act.put, st_a, st_0, st_s])
        refine wl_give rfl (g_load_all 44 _ (w46.heap.size) (pkc (((i : Nat) : Int)) (x) (G) (T) (K)) 44 _ rfl (hM.get 0 rfl) Tryd.underlying44 rfl (szPk _ _ _ _ _) ?_)
        (try simp only [Act.put, st_a, st_0, st_s])
        refine wl_give rfl (g_pkE _ _ (((i : Nat) : Int)) (x) (G) (T) (K) rfl rfl ?_)
        (try simp only [Act.put, st_a, st_0, st_s])
        refine wl_give rfl (g_pickt _ _ _ (.bool true) rfl rfl ?_)
        (try simp only [Act.put, st_a, st_0, st_s])
        refine wl_give rfl (g_move _ (.bool true) rfl ?_)
        (try simp only [Act.put, st_a, st_0, st_s])
        refine wl_give rfl (g_fa 44 _ (w38.heap.size) (0) (0) 0 rfl (faPk0 _ _ _) ?_)
        (try simp only [Act.put, st_a, st_0, st_s])
        refine wl_give rfl (g_ld1 3 _ (w38.heap.size) (0) _ rfl (ld3 _ _ _ _ ((hM.get 4 rfl).cell (0) _ (rfl))) ?_)
        (try simp only [Act.put, st_a, st_0, st_s])
        refine wl_give rfl (g_move _ (.int .i64 (((i : Nat) : Int))) rfl ?_)
        (try simp only [Act.put, st_a, st_0, st_s])
        refine wl_give rfl (g_ieq 3 _ _ .i64 (((i : Nat) : Int)) (((i : Nat) : Int)) true rfl rfl (decide_eq_true rfl) ?_)
        (try simp only [Act.put, st_a, st_0, st_s])
        refine wl_give rfl (g_pickt _ _ _ (.bool true) rfl rfl ?_)
        (try simp only [Act.put, st_a, st_0, st_s])
        refine wl_give rfl (g_assign _ (.bool true) rfl ?_)
        (try simp only [Act.put, st_a, st_0, st_s])
        refine wl_nil ?_
        refine hK49 _ _ ?_
        (try clear hK49 K49)
        refine wp_ret ?_
        go_ret
        exact ⟨rfl, hM.below⟩
    · skip
      refine wp_seq_k (fun K50 hK50 => ?_)
      refine wp_seq_k (fun K51 hK51 => ?_)
      refine wl_region ?_
      refine wl_give rfl (g_move _ (.int .i64 (((j : Nat) : Int))) rfl ?_)
      (try simp only [Act.put, st_a, st_0, st_s])
      refine wl_give rfl (g_move _ (.slice ao (n) (cap)) rfl ?_)
      (try simp only [Act.put, st_a, st_0, st_s])
      refine wl_give rfl (g_len _ 58 5 (ao) (n) (cap) (((n : Nat) : Int)) Tryd.underlying58 rfl (rfl) ?_)
      (try simp only [Act.put, st_a, st_0, st_s])
      refine wl_give rfl (g_ilss 3 _ _ .i64 (((j : Nat) : Int)) (((n : Nat) : Int)) false rfl rfl (decide_eq_false (by omega)) ?_)
      (try simp only [Act.put, st_a, st_0, st_s])
      refine wl_give rfl (g_move _ (.bool false) rfl ?_)
      (try simp only [Act.put, st_a, st_0, st_s])
      refine wl_skip rfl ?_
      (try simp only [Act.put, st_a, st_0, st_s])
      refine wl_skip rfl ?_
      (try simp only [Act.put, st_a, st_0, st_s])
      refine wl_give rfl (g_pickf _ _ _ (.bool false) rfl rfl ?_)
      (try simp only [Act.put, st_a, st_0, st_s])
      refine wl_nil ?_
      refine hK51 _ _ ?_
      (try clear hK51 K51)
      refine wp_cond_false rfl ?_
      refine wp_exit ?_
      refine hK22 _ _ ?_
      (try clear hK22 K22)
      refine wp_seq_k (fun K52 hK52 => ?_)
      refine wl_region ?_
      refine wl_give rfl (g_move _ (.pointer (some ⟨p12, 0, none⟩)) rfl ?_)
      (try simp only [Act.put, st_a, st_0, st_s])
      refine wl_give rfl (g_move _ (.int .i64 (X)) rfl ?_)
      (try simp only [Act.put, st_a, st_0, st_s])
      refine wl_give rfl (g_move _ (.string (x)) rfl ?_)
      (try simp only [Act.put, st_a, st_0, st_s])
      refine wl_give rfl (g_call 15 _ _ [.pointer (some ⟨p12, 0, none⟩), .int .i64 (X), .string (x)] (kf15 _ _) rfl ((send_any (show Ms w wr [sn p12 (s) (P) (((m : Nat) : Int)), sn r15 (s) (P) (0), blk (w2.heap.size) (plc (P)) 25, blk (w.heap.size) (kc (s)) 23] from (hM.up 1 rfl)) hT (X) bX (x) (((i : Nat) : Int)) (x) (G) (T) (K) (0) (((i : Nat) : Int)) ⟨hSx m hm⟩).mono ?_))
      rintro e w53 ⟨rfl, h_⟩
      refine ⟨_, rfl, ?_⟩
      replace hM : Ms w w53 [sn p12 (s) (P) (((i : Nat) : Int)), sn r15 (s) (P) (0), blk (w2.heap.size) (plc (P)) 25, blk (w.heap.size) (kc (s)) 23] := h_
      clear h_
      (try simp only [Act.put, st_a, st_0, st_s])
      refine wl_give rfl (g_move _ (.tuple #[.agg (pkc (((i : Nat) : Int)) (x) (G) (T) (K)).toArray, .int .i64 (0)]) rfl ?_)
      (try simp only [Act.put, st_a, st_0, st_s])
      refine wl_give rfl (g_extract _ #[.agg (pkc (((i : Nat) : Int)) (x) (G) (T) (K)).toArray, .int .i64 (0)] 0 (.agg (pkc (((i : Nat) : Int)) (x) (G) (T) (K)).toArray) rfl rfl ?_)
      (try simp only [Act.put, st_a, st_0, st_s])
      refine wl_give rfl (g_extract _ #[.agg (pkc (((i : Nat) : Int)) (x) (G) (T) (K)).toArray, .int .i64 (0)] 1 (.int .i64 (0)) rfl rfl ?_)
      (try simp only [Act.put, st_a, st_0, st_s])
      refine wl_give rfl (g_alloc 44 (pkc (0) (⟨#[]⟩) (⟨#[]⟩) (0) (zk)) zeroPk ?_)
      intro w54 t_ b_
      replace hM := hM.new t_ b_
      clear t_ b_
      (try simp only [Act.put, st_a, st_0, st_s])
      refine wl_give rfl (g_store_all 44 _ _ (w53.heap.size) (pkc (((i : Nat) : Int)) (x) (G) (T) (K)) _ 44 rfl rfl (hM.get 0 rfl) (szPk _ _ _ _ _) (kk2_len _ _ _ _ _ _ _ _ _ _) (one_pkc _ _ _ _ _) ?_)
      intro w55 t_ b_
      replace hM : Ms w w55 [blk (w53.heap.size) (pkc (((i : Nat) : Int)) (x) (G) (T) (K)) 44, sn p12 (s) (P) (((i : Nat) : Int)), sn r15 (s) (P) (0), blk (w2.heap.size) (plc (P)) 25, blk (w.heap.size) (kc (s)) 23] := hM.put 0 rfl t_ b_
      clear t_ b_
      (try simp only [Act.put, st_a, st_0, st_s])
      refine wl_give rfl (g_assign _ (.int .i64 (0)) rfl ?_)
      (try simp only [Act.put, st_a, st_0, st_s])
      refine wl_nil ?_
      refine hK52 _ _ ?_
      (try clear hK52 K52)
      refine wp_seq_k (fun K56 hK56 => ?_)
      refine wl_region ?_
      refine wl_give rfl (g_move _ (.pointer (some ⟨r15, 0, none⟩)) rfl ?_)
      (try simp only [Act.put, st_a, st_0, st_s])
      refine wl_give rfl (g_move _ (.int .i64 (X)) rfl ?_)
      (try simp only [Act.put, st_a, st_0, st_s])
      refine wl_give rfl (g_fa 25 _ (w2.heap.size) (0) (1) 1 rfl (faPl1 _ _ _) ?_)
      (try simp only [Act.put, st_a, st_0, st_s])
      refine wl_give rfl (g_ld1 2 _ (w2.heap.size) (1) _ rfl (ld2 _ _ _ _ ((hM.get 3 rfl).cell (1) _ (rfl))) ?_)
      (try simp only [Act.put, st_a, st_0, st_s])
      refine wl_give rfl (g_ia 2 _ _ .i64 (X) (P.lg) (X + P.lg) rfl rfl eY1.out ?_)
      (try simp only [Act.put, st_a, st_0, st_s])
      refine wl_give rfl (g_isub 2 _ _ .i64 (X + P.lg) (1) (Y) rfl rfl eY2.out ?_)
      (try simp only [Act.put, st_a, st_0, st_s])
      refine wl_give rfl (g_move _ (.string (x)) rfl ?_)
      (try simp only [Act.put, st_a, st_0, st_s])
      refine wl_give rfl (g_call 15 _ _ [.pointer (some ⟨r15, 0, none⟩), .int .i64 (Y), .string (x)] (kf15 _ _) rfl ((send_any (show Ms w w55 [sn r15 (s) (P) (0), blk (w53.heap.size) (pkc (((i : Nat) : Int)) (x) (G) (T) (K)) 44, sn p12 (s) (P) (((i : Nat) : Int)), blk (w2.heap.size) (plc (P)) 25, blk (w.heap.size) (kc (s)) 23] from (hM.up 2 rfl)) hT (Y) bY (x) (((i : Nat) : Int)) (x) (G) (T) (K) (0) (((i : Nat) : Int)) ⟨hSy⟩).mono ?_))
      rintro e w57 ⟨rfl, h_⟩
      refine ⟨_, rfl, ?_⟩
      replace hM : Ms w w57 [sn r15 (s) (P) (((i : Nat) : Int)), blk (w53.heap.size) (pkc (((i : Nat) : Int)) (x) (G) (T) (K)) 44, sn p12 (s) (P) (((i : Nat) : Int)), blk (w2.heap.size) (plc (P)) 25, blk (w.heap.size) (kc (s)) 23] := h_
      clear h_
      (try simp only [Act.put, st_a, st_0, st_s])
      refine wl_give rfl (g_move _ (.tuple #[.agg (pkc (((i : Nat) : Int)) (x) (G) (T) (K)).toArray, .int .i64 (0)]) rfl ?_)
      (try simp only [Act.put, st_a, st_0, st_s])
      refine wl_give rfl (g_extract _ #[.agg (pkc (((i : Nat) : Int)) (x) (G) (T) (K)).toArray, .int .i64 (0)] 0 (.agg (pkc (((i : Nat) : Int)) (x) (G) (T) (K)).toArray) rfl rfl ?_)
      (try simp only [Act.put, st_a, st_0, st_s])
      refine wl_give rfl (g_extract _ #[.agg (pkc (((i : Nat) : Int)) (x) (G) (T) (K)).toArray, .int .i64 (0)] 1 (.int .i64 (0)) rfl rfl ?_)
      (try simp only [Act.put, st_a, st_0, st_s])
      refine wl_give rfl (g_alloc 44 (pkc (0) (⟨#[]⟩) (⟨#[]⟩) (0) (zk)) zeroPk ?_)
      intro w58 t_ b_
      replace hM := hM.new t_ b_
      clear t_ b_
      (try simp only [Act.put, st_a, st_0, st_s])
      refine wl_give rfl (g_store_all 44 _ _ (w57.heap.size) (pkc (((i : Nat) : Int)) (x) (G) (T) (K)) _ 44 rfl rfl (hM.get 0 rfl) (szPk _ _ _ _ _) (kk2_len _ _ _ _ _ _ _ _ _ _) (one_pkc _ _ _ _ _) ?_)
      intro w59 t_ b_
      replace hM : Ms w w59 [blk (w57.heap.size) (pkc (((i : Nat) : Int)) (x) (G) (T) (K)) 44, sn r15 (s) (P) (((i : Nat) : Int)), blk (w53.heap.size) (pkc (((i : Nat) : Int)) (x) (G) (T) (K)) 44, sn p12 (s) (P) (((i : Nat) : Int)), blk (w2.heap.size) (plc (P)) 25, blk (w.heap.size) (kc (s)) 23] := hM.put 0 rfl t_ b_
      clear t_ b_
      (try simp only [Act.put, st_a, st_0, st_s])
      refine wl_give rfl (g_assign _ (.int .i64 (0)) rfl ?_)
      (try simp only [Act.put, st_a, st_0, st_s])
      refine wl_nil ?_
      refine hK56 _ _ ?_
      (try clear hK56 K56)
      refine wp_seq_k (fun K60 hK60 => ?_)
      refine wl_region ?_
      refine wl_give rfl (g_move _ (.pointer (some ⟨p12, 0, none⟩)) rfl ?_)
      (try simp only [Act.put, st_a, st_0, st_s])
      refine wl_give rfl (g_move _ (.int .i64 (X)) rfl ?_)
      (try simp only [Act.put, st_a, st_0, st_s])
      refine wl_give rfl (g_move _ (.string (x)) rfl ?_)
      (try simp only [Act.put, st_a, st_0, st_s])
      refine wl_give rfl (g_call 15 _ _ [.pointer (some ⟨p12, 0, none⟩), .int .i64 (X), .string (x)] (kf15 _ _) rfl ((send_any (show Ms w w59 [sn p12 (s) (P) (((i : Nat) : Int)), blk (w57.heap.size) (pkc (((i : Nat) : Int)) (x) (G) (T) (K)) 44, sn r15 (s) (P) (((i : Nat) : Int)), blk (w53.heap.size) (pkc (((i : Nat) : Int)) (x) (G) (T) (K)) 44, blk (w2.heap.size) (plc (P)) 25, blk (w.heap.size) (kc (s)) 23] from (hM.up 3 rfl)) hT (X) bX (x) (((i : Nat) : Int)) (x) (G) (T) (K) (0) (((i : Nat) : Int)) ⟨hSx i (Nat.le_refl _)⟩).mono ?_))
      rintro e w61 ⟨rfl, h_⟩
      refine ⟨_, rfl, ?_⟩
      replace hM : Ms w w61 [sn p12 (s) (P) (((i : Nat) : Int)), blk (w57.heap.size) (pkc (((i : Nat) : Int)) (x) (G) (T) (K)) 44, sn r15 (s) (P) (((i : Nat) : Int)), blk (w53.heap.size) (pkc (((i : Nat) : Int)) (x) (G) (T) (K)) 44, blk (w2.heap.size) (plc (P)) 25, blk (w.heap.size) (kc (s)) 23] := h_
      clear h_
      (try simp only [Act.put, st_a, st_0, st_s])
      refine wl_give rfl (g_move _ (.tuple #[.agg (pkc (((i : Nat) : Int)) (x) (G) (T) (K)).toArray, .int .i64 (0)]) rfl ?_)
      (try simp only [Act.put, st_a, st_0, st_s])
      refine wl_give rfl (g_extract _ #[.agg (pkc (((i : Nat) : Int)) (x) (G) (T) (K)).toArray, .int .i64 (0)] 0 (.agg (pkc (((i : Nat) : Int)) (x) (G) (T) (K)).toArray) rfl rfl ?_)
      (try simp only [Act.put, st_a, st_0, st_s])
      refine wl_give rfl (g_extract _ #[.agg (pkc (((i : Nat) : Int)) (x) (G) (T) (K)).toArray, .int .i64 (0)] 1 (.int .i64 (0)) rfl rfl ?_)
      (try simp only [Act.put, st_a, st_0, st_s])
      refine wl_give rfl (g_alloc 44 (pkc (0) (⟨#[]⟩) (⟨#[]⟩) (0) (zk)) zeroPk ?_)
      intro w62 t_ b_
      replace hM := hM.new t_ b_
      clear t_ b_
      (try simp only [Act.put, st_a, st_0, st_s])
      refine wl_give rfl (g_store_all 44 _ _ (w61.heap.size) (pkc (((i : Nat) : Int)) (x) (G) (T) (K)) _ 44 rfl rfl (hM.get 0 rfl) (szPk _ _ _ _ _) (kk2_len _ _ _ _ _ _ _ _ _ _) (one_pkc _ _ _ _ _) ?_)
      intro w63 t_ b_
      replace hM : Ms w w63 [blk (w61.heap.size) (pkc (((i : Nat) : Int)) (x) (G) (T) (K)) 44, sn p12 (s) (P) (((i : Nat) : Int)), blk (w57.heap.size) (pkc (((i : Nat) : Int)) (x) (G) (T) (K)) 44, sn r15 (s) (P) (((i : Nat) : Int)), blk (w53.heap.size) (pkc (((i : Nat) : Int)) (x) (G) (T) (K)) 44, blk (w2.heap.size) (plc (P)) 25, blk (w.heap.size) (kc (s)) 23] := hM.put 0 rfl t_ b_
      clear t_ b_
      (try simp only [Act.put, st_a, st_0, st_s])
      refine wl_give rfl (g_assign _ (.int .i64 (0)) rfl ?_)
      (try simp only [Act.put, st_a, st_0, st_s])
      refine wl_nil ?_
      refine hK60 _ _ ?_
      (try clear hK60 K60)
      refine wp_seq_k (fun K64 hK64 => ?_)
      refine wl_region ?_
      refine wl_give rfl (g_move _ (.int .i64 (0)) rfl ?_)
      (try simp only [Act.put, st_a, st_0, st_s])
      refine wl_give rfl (g_ieq 29 _ _ .i64 (0) (0) true rfl rfl (by decide) ?_)
      (try simp only [Act.put, st_a, st_0, st_s])
      refine wl_give rfl (g_move _ (.bool true) rfl ?_)
      (try simp only [Act.put, st_a, st_0, st_s])
      refine wl_give rfl (g_move _ (.int .i64 (0)) rfl ?_)
      (try simp only [Act.put, st_a, st_0, st_s])
      refine wl_give rfl (g_ieq 29 _ _ .i64 (0) (0) true rfl rfl (by decide) ?_)
      (try simp only [Act.put, st_a, st_0, st_s])
      refine wl_give rfl (g_pickt _ _ _ (.bool true) rfl rfl ?_)
      (try simp only [Act.put, st_a, st_0, st_s])
      refine wl_give rfl (g_move _ (.bool true) rfl ?_)
      (try simp only [Act.put, st_a, st_0, st_s])
      refine wl_give rfl (g_move _ (.int .i64 (0)) rfl ?_)
      (try simp only [Act.put, st_a, st_0, st_s])
      refine wl_give rfl (g_ieq 29 _ _ .i64 (0) (0) true rfl rfl (by decide) ?_)
      (try simp only [Act.put, st_a, st_0, st_s])
      refine wl_give rfl (g_pickt _ _ _ (.bool true) rfl rfl ?_)
      (try simp only [Act.put, st_a, st_0, st_s])
      refine wl_give rfl (g_move _ (.bool true) rfl ?_)
      (try simp only [Act.put, st_a, st_0, st_s])
      refine wl_give rfl (g_load_all 44 _ (w53.heap.size) (pkc (((i : Nat) : Int)) (x) (G) (T) (K)) 44 _ rfl (hM.get 4 rfl) Tryd.underlying44 rfl (szPk _ _ _ _ _) ?_)
      (try simp only [Act.put, st_a, st_0, st_s])
      refine wl_give rfl (g_load_all 44 _ (w57.heap.size) (pkc (((i : Nat) : Int)) (x) (G) (T) (K)) 44 _ rfl (hM.get 2 rfl) Tryd.underlying44 rfl (szPk _ _ _ _ _) ?_)
      (try simp only [Act.put, st_a, st_0, st_s])
      refine wl_give rfl (g_pkE _ _ (((i : Nat) : Int)) (x) (G) (T) (K) rfl rfl ?_)
      (try simp only [Act.put, st_a, st_0, st_s])
      refine wl_give rfl (g_pickt _ _ _ (.bool true) rfl rfl ?_)
      (try simp only [Act.put, st_a, st_0, st_s])
      refine wl_give rfl (g_move _ (.bool true) rfl ?_)
      (try simp only [Act.put, st_a, st_0, st_s])
      refine wl_give rfl (g_load_all 44 _ (w53.heap.size) (pkc (((i : Nat) : Int)) (x) (G) (T) (K)) 44 _ rfl (hM.get 4 rfl) Tryd.underlying44 rfl (szPk _ _ _ _ _) ?_)
      (try simp only [Act.put, st_a, st_0, st_s])
      refine wl_give rfl (g_load_all 44 _ (w61.heap.size) (pkc (((i : Nat) : Int)) (x) (G) (T) (K)) 44 _ rfl (hM.get 0 rfl) Tryd.underlying44 rfl (szPk _ _ _ _ _) ?_)
      (try simp only [Act.put, st_a, st_0, st_s])
      refine wl_give rfl (g_pkE _ _ (((i : Nat) : Int)) (x) (G) (T) (K) rfl rfl ?_)
      (try simp only [Act.put, st_a, st_0, st_s])
      refine wl_give rfl (g_pickt _ _ _ (.bool true) rfl rfl ?_)
      (try simp only [Act.put, st_a, st_0, st_s])
      refine wl_give rfl (g_move _ (.bool true) rfl ?_)
      (try simp only [Act.put, st_a, st_0, st_s])
      refine wl_give rfl (g_fa 44 _ (w53.heap.size) (0) (0) 0 rfl (faPk0 _ _ _) ?_)
      (try simp only [Act.put, st_a, st_0, st_s])
      refine wl_give rfl (g_ld1 3 _ (w53.heap.size) (0) _ rfl (ld3 _ _ _ _ ((hM.get 4 rfl).cell (0) _ (rfl))) ?_)
      (try simp only [Act.put, st_a, st_0, st_s])
      refine wl_give rfl (g_move _ (.int .i64 (((i : Nat) : Int))) rfl ?_)
      (try simp only [Act.put, st_a, st_0, st_s])
      refine wl_give rfl (g_ieq 3 _ _ .i64 (((i : Nat) : Int)) (((i : Nat) : Int)) true rfl rfl (decide_eq_true rfl) ?_)
      (try simp only [Act.put, st_a, st_0, st_s])
      refine wl_give rfl (g_pickt _ _ _ (.bool true) rfl rfl ?_)
      (try simp only [Act.put, st_a, st_0, st_s])
      refine wl_give rfl (g_assign _ (.bool true) rfl ?_)
      (try simp only [Act.put, st_a, st_0, st_s])
      refine wl_nil ?_
      refine hK64 _ _ ?_
      (try clear hK64 K64)
      refine wp_ret ?_
      go_ret
      exact ⟨rfl, hM.below⟩
theorem walk (l0 : List UInt8) (h0 : l0.length = 32) (P : Pl) (z : Int) (x : ByteArray) (ao : Option Addr) (n cap : Nat) (w : World) (hT : Tabs w) (hp : PIn P) (hz : 0 ≤ z ∧ z < 256) (hc : LV OkU w ao n) (hn : n ≤ cap) (hcap : cap ≤ maxLen) : Calls Tryd.prog 8 #[.agg (bc l0).toArray, .agg (plc P).toArray, .int .u8 z, .string x, .slice ao n cap] w fun e w' => e = .returned (.bool true) ∧ Below w.heap.size w w' := by
  unfold maxLen at hcap
  by_cases hP : POk P
  · by_cases h1 : 16 < P.ct
    · exact walk_2 ⟨l0, h0⟩ P z x ao n cap w hT hP h1
    · by_cases h2 : 1000 < ((x.size : Nat) : Int)
      · exact walk_3 ⟨l0, h0⟩ P z x ao n cap w hT hP h1 h2
      · obtain ⟨ct, hct⟩ : ∃ ct : Nat, P.ct = (ct : Int) := ⟨P.ct.toNat, by omega⟩
        obtain ⟨r0, eR, hr0⟩ := rem_nat z ct (by omega) hz.1
        obtain ⟨i, hi⟩ : ∃ i : Nat, r0 + 1 = i := ⟨_, rfl⟩
        have hi1 : 1 ≤ i := by omega
        have hi2 : (i : Int) ≤ P.ct := by omega
        have hX : pbg P (i : Int) = (bgn P i, 0) := by unfold pbg; rw [if_pos ⟨hP, by omega, by omega⟩]
        have b := bgn_bd hP (i := (i : Int)) (by omega) (by omega)
        have px : pat P (bgn P i) = ((i : Int), 0) := pat_in hP (by omega) hi2 (Int.le_refl _) (by rw [bgn_succ]; omega)
        have py : pat P (bgn P i + P.lg - 1) = ((i : Int), 0) := pat_in hP (by omega) hi2 (by omega) (by rw [bgn_succ]; omega)
        exact walk_4 ⟨l0, h0⟩ P z x ao n cap w hT hP h1 h2 r0 i hi1 hi2 ⟨wrap_id _ (by omega) (by omega)⟩ ⟨by rw [hct]; exact eR⟩ ⟨by rw [wrap_id _ (by omega) (by omega)]; omega⟩ (bgn P i) (bgn P i + P.lg - 1) ⟨hX⟩ (by omega) (by omega) ⟨wrap_id _ (by omega) (by omega)⟩ ⟨wrap_id _ (by omega) (by omega)⟩ _ _ _
          (fun m hm => sdA_ok ⟨l0, h0⟩ P m (bgn P i) i _ x px (by omega) (by omega) rfl) (sdA_ok ⟨l0, h0⟩ P 0 _ i _ x py (by omega) (by omega) rfl) hc (by omega)
  · exact walk_1 ⟨l0, h0⟩ P z x ao n cap w hT hP
end Go.Proofs.YtphocklnhoakcaaDoor.senderSame
