/- SenderTags: the walk. -/
import Derived.Test.YtphocklnhoakcaaDoorArgs
import Derived.WalkKit
import Derived.WalkSpells
import Derived.WalkLawsBesides
namespace Go.Proofs.YtphocklnhoakcaaDoor.senderTags
set_option maxRecDepth 10000
open Go Go.RowKit
set_option linter.unusedVariables false
set_option linter.unusedSimpArgs false

set_option maxHeartbeats 4000000 in
theorem walk_1 (k : Ky) (i : Int) (x g : ByteArray) (t : Int) (m : Ky) (w : World) (hT : Tabs w) (h1 : 1100 < ((x.size : Nat) : Int)) : Calls Tryd.prog 4 #[.agg (kc k).toArray, .agg (pkc i x g t m).toArray] w fun e w' => e = .returned (.bool true) ∧ Below w.heap.size w w' := by
  have hM := Ms.refl w
  go_enter Tryd.func4, Tryd.ntmps4
  refine wp_seq_k (fun K1 hK1 => ?_)
  refine wl_region ?_
  refine wl_give rfl (g_box 23 _ (kc (k)) rfl ?_)
  intro w2 t_ b_
  replace hM := hM.new t_ b_
  clear t_ b_
  (try simp only [Act.put, st_a, st_0, st_s])
  refine wl_give rfl (g_box 44 _ (pkc (i) (x) (g) (t) (m)) rfl ?_)
  intro w3 t_ b_
  replace hM := hM.new t_ b_
  clear t_ b_
  (try simp only [Act.put, st_a, st_0, st_s])
  refine wl_give rfl (g_assign _ (.bool false) rfl ?_)
  (try simp only [Act.put, st_a, st_0, st_s])
  refine wl_nil ?_
  refine hK1 _ _ ?_
  (try clear hK1 K1)
  refine wp_seq_k (fun K4 hK4 => ?_)
  refine wp_seq_k (fun K5 hK5 => ?_)
  refine wl_region ?_
  refine wl_give rfl (g_call 9 _ _ [] (kf9 _ _) rfl ((awake_any w3 (hM.tabs hT)).mono ?_))
  rintro e w6 ⟨rfl, t_⟩
  refine ⟨_, rfl, ?_⟩
  replace hM := hM.call t_
  clear t_
  (try simp only [Act.put, st_a, st_0, st_s])
  refine wl_give rfl (g_unot 4 _ true rfl ?_)
  (try simp only [Act.put, st_a, st_0, st_s])
  refine wl_nil ?_
  refine hK5 _ _ ?_
  (try clear hK5 K5)
  refine wp_cond_false rfl ?_
  refine wp_skip ?_
  refine hK4 _ _ ?_
  (try clear hK4 K4)
  refine wp_seq_k (fun K7 hK7 => ?_)
  refine wp_seq_k (fun K8 hK8 => ?_)
  refine wl_region ?_
  refine wl_give rfl (g_fa 44 _ (w2.heap.size) (0) (1) 1 rfl (faPk1 _ _ _) ?_)
  (try simp only [Act.put, st_a, st_0, st_s])
  refine wl_give rfl (g_ld1 9 _ (w2.heap.size) (1) _ rfl (ld9 _ _ _ _ ((hM.get 0 rfl).cell (1) _ (rfl))) ?_)
  (try simp only [Act.put, st_a, st_0, st_s])
  refine wl_give rfl (g_lenT _ (x) ((((x).size : Nat) : Int)) rfl (rfl) ?_)
  (try simp only [Act.put, st_a, st_0, st_s])
  refine wl_give rfl (g_igtr 3 _ _ .i64 ((((x).size : Nat) : Int)) (1100) true rfl rfl (decide_eq_true h1) ?_)
  (try simp only [Act.put, st_a, st_0, st_s])
  refine wl_give rfl (g_move _ (.bool true) rfl ?_)
  (try simp only [Act.put, st_a, st_0, st_s])
  refine wl_skip rfl ?_
  (try simp only [Act.put, st_a, st_0, st_s])
  refine wl_skip rfl ?_
  (try simp only [Act.put, st_a, st_0, st_s])
  refine wl_skip rfl ?_
  (try simp only [Act.put, st_a, st_0, st_s])
  refine wl_skip rfl ?_
  (try simp only [Act.put, st_a, st_0, st_s])
  refine wl_give rfl (g_pickt _ _ _ (.bool true) rfl rfl ?_)
  (try simp only [Act.put, st_a, st_0, st_s])
  refine wl_nil ?_
  refine hK8 _ _ ?_
  (try clear hK8 K8)
  refine wp_cond_true rfl ?_
  refine wp_seq_k (fun K9 hK9 => ?_)
  refine wl_region ?_
  refine wl_give rfl (g_assign _ (.bool true) rfl ?_)
  (try simp only [Act.put, st_a, st_0, st_s])
  refine wl_nil ?_
  refine hK9 _ _ ?_
  (try clear hK9 K9)
  refine wp_ret ?_
  go_ret
  exact ⟨rfl, hM.below⟩
set_option maxHeartbeats 4000000 in
theorem walk_2 (k : Ky) (i : Int) (x g : ByteArray) (t : Int) (m : Ky) (w : World) (hT : Tabs w) (h1 : ¬ 1100 < ((x.size : Nat) : Int)) (h2 : 100 < ((g.size : Nat) : Int)) : Calls Tryd.prog 4 #[.agg (kc k).toArray, .agg (pkc i x g t m).toArray] w fun e w' => e = .returned (.bool true) ∧ Below w.heap.size w w' := by
  have hM := Ms.refl w
  go_enter Tryd.func4, Tryd.ntmps4
  refine wp_seq_k (fun K1 hK1 => ?_)
  refine wl_region ?_
  refine wl_give rfl (g_box 23 _ (kc (k)) rfl ?_)
  intro w2 t_ b_
  replace hM := hM.new t_ b_
  clear t_ b_
  (try simp only [Act.put, st_a, st_0, st_s])
  refine wl_give rfl (g_box 44 _ (pkc (i) (x) (g) (t) (m)) rfl ?_)
  intro w3 t_ b_
  replace hM := hM.new t_ b_
  clear t_ b_
  (try simp only [Act.put, st_a, st_0, st_s])
  refine wl_give rfl (g_assign _ (.bool false) rfl ?_)
  (try simp only [Act.put, st_a, st_0, st_s])
  refine wl_nil ?_
  refine hK1 _ _ ?_
  (try clear hK1 K1)
  refine wp_seq_k (fun K4 hK4 => ?_)
  refine wp_seq_k (fun K5 hK5 => ?_)
  refine wl_region ?_
  refine wl_give rfl (g_call 9 _ _ [] (kf9 _ _) rfl ((awake_any w3 (hM.tabs hT)).mono ?_))
  rintro e w6 ⟨rfl, t_⟩
  refine ⟨_, rfl, ?_⟩
  replace hM := hM.call t_
  clear t_
  (try simp only [Act.put, st_a, st_0, st_s])
  refine wl_give rfl (g_unot 4 _ true rfl ?_)
  (try simp only [Act.put, st_a, st_0, st_s])
  refine wl_nil ?_
  refine hK5 _ _ ?_
  (try clear hK5 K5)
  refine wp_cond_false rfl ?_
  refine wp_skip ?_
  refine hK4 _ _ ?_
  (try clear hK4 K4)
  refine wp_seq_k (fun K7 hK7 => ?_)
  refine wp_seq_k (fun K8 hK8 => ?_)
  refine wl_region ?_
  refine wl_give rfl (g_fa 44 _ (w2.heap.size) (0) (1) 1 rfl (faPk1 _ _ _) ?_)
  (try simp only [Act.put, st_a, st_0, st_s])
  refine wl_give rfl (g_ld1 9 _ (w2.heap.size) (1) _ rfl (ld9 _ _ _ _ ((hM.get 0 rfl).cell (1) _ (rfl))) ?_)
  (try simp only [Act.put, st_a, st_0, st_s])
  refine wl_give rfl (g_lenT _ (x) ((((x).size : Nat) : Int)) rfl (rfl) ?_)
  (try simp only [Act.put, st_a, st_0, st_s])
  refine wl_give rfl (g_igtr 3 _ _ .i64 ((((x).size : Nat) : Int)) (1100) false rfl rfl (decide_eq_false h1) ?_)
  (try simp only [Act.put, st_a, st_0, st_s])
  refine wl_give rfl (g_move _ (.bool false) rfl ?_)
  (try simp only [Act.put, st_a, st_0, st_s])
  refine wl_give rfl (g_fa 44 _ (w2.heap.size) (0) (2) 2 rfl (faPk2 _ _ _) ?_)
  (try simp only [Act.put, st_a, st_0, st_s])
  refine wl_give rfl (g_ld1 9 _ (w2.heap.size) (2) _ rfl (ld9 _ _ _ _ ((hM.get 0 rfl).cell (2) _ (rfl))) ?_)
  (try simp only [Act.put, st_a, st_0, st_s])
  refine wl_give rfl (g_lenT _ (g) ((((g).size : Nat) : Int)) rfl (rfl) ?_)
  (try simp only [Act.put, st_a, st_0, st_s])
  refine wl_give rfl (g_igtr 3 _ _ .i64 ((((g).size : Nat) : Int)) (100) true rfl rfl (decide_eq_true h2) ?_)
  (try simp only [Act.put, st_a, st_0, st_s])
  refine wl_give rfl (g_pickf _ _ _ (.bool true) rfl rfl ?_)
  (try simp only [Act.put, st_a, st_0, st_s])
  refine wl_nil ?_
  refine hK8 _ _ ?_
  (try clear hK8 K8)
  refine wp_cond_true rfl ?_
  refine wp_seq_k (fun K9 hK9 => ?_)
  refine wl_region ?_
  refine wl_give rfl (g_assign _ (.bool true) rfl ?_)
  (try simp only [Act.put, st_a, st_0, st_s])
  refine wl_nil ?_
  refine hK9 _ _ ?_
  (try clear hK9 K9)
  refine wp_ret ?_
  go_ret
  exact ⟨rfl, hM.below⟩
set_option maxHeartbeats 4000000 in
theorem walk_3 (k : Ky) (i : Int) (x g : ByteArray) (t : Int) (m : Ky) (w : World) (hT : Tabs w) (h1 : ¬ 1100 < ((x.size : Nat) : Int)) (h2 : ¬ 100 < ((g.size : Nat) : Int)) (hx : x.size ≤ 2000) (hg : g.size ≤ maxLen) (G : ByteArray) (hG : Shut (tgs k i x = G)) (hGs : G.size ≤ maxLen) (B : Bool) (hB : Shut (decide (g = tgs k i x) = B)) (hB2 : Shut (decide (G = tgs k i x) = true)) (hB3 : Shut (decide (g = G) = B)) (hG16 : Shut (((G.size : Nat) : Int) = 16)) : Calls Tryd.prog 4 #[.agg (kc k).toArray, .agg (pkc i x g t m).toArray] w fun e w' => e = .returned (.bool true) ∧ Below w.heap.size w w' := by
  have hM := Ms.refl w
  go_enter Tryd.func4, Tryd.ntmps4
  refine wp_seq_k (fun K1 hK1 => ?_)
  refine wl_region ?_
  refine wl_give rfl (g_box 23 _ (kc (k)) rfl ?_)
  intro w2 t_ b_
  replace hM := hM.new t_ b_
  clear t_ b_
  (try simp only [Act.put, st_a, st_0, st_s])
  refine wl_give rfl (g_box 44 _ (pkc (i) (x) (g) (t) (m)) rfl ?_)
  intro w3 t_ b_
  replace hM := hM.new t_ b_
  clear t_ b_
  (try simp only [Act.put, st_a, st_0, st_s])
  refine wl_give rfl (g_assign _ (.bool false) rfl ?_)
  (try simp only [Act.put, st_a, st_0, st_s])
  refine wl_nil ?_
  refine hK1 _ _ ?_
  (try clear hK1 K1)
  refine wp_seq_k (fun K4 hK4 => ?_)
  refine wp_seq_k (fun K5 hK5 => ?_)
  refine wl_region ?_
  refine wl_give rfl (g_call 9 _ _ [] (kf9 _ _) rfl ((awake_any w3 (hM.tabs hT)).mono ?_))
  rintro e w6 ⟨rfl, t_⟩
  refine ⟨_, rfl, ?_⟩
  replace hM := hM.call t_
  clear t_
  (try simp only [Act.put, st_a, st_0, st_s])
  refine wl_give rfl (g_unot 4 _ true rfl ?_)
  (try simp only [Act.put, st_a, st_0, st_s])
  refine wl_nil ?_
  refine hK5 _ _ ?_
  (try clear hK5 K5)
  refine wp_cond_false rfl ?_
  refine wp_skip ?_
  refine hK4 _ _ ?_
  (try clear hK4 K4)
  refine wp_seq_k (fun K7 hK7 => ?_)
  refine wp_seq_k (fun K8 hK8 => ?_)
  refine wl_region ?_
  refine wl_give rfl (g_fa 44 _ (w2.heap.size) (0) (1) 1 rfl (faPk1 _ _ _) ?_)
  (try simp only [Act.put, st_a, st_0, st_s])
  refine wl_give rfl (g_ld1 9 _ (w2.heap.size) (1) _ rfl (ld9 _ _ _ _ ((hM.get 0 rfl).cell (1) _ (rfl))) ?_)
  (try simp only [Act.put, st_a, st_0, st_s])
  refine wl_give rfl (g_lenT _ (x) ((((x).size : Nat) : Int)) rfl (rfl) ?_)
  (try simp only [Act.put, st_a, st_0, st_s])
  refine wl_give rfl (g_igtr 3 _ _ .i64 ((((x).size : Nat) : Int)) (1100) false rfl rfl (decide_eq_false h1) ?_)
  (try simp only [Act.put, st_a, st_0, st_s])
  refine wl_give rfl (g_move _ (.bool false) rfl ?_)
  (try simp only [Act.put, st_a, st_0, st_s])
  refine wl_give rfl (g_fa 44 _ (w2.heap.size) (0) (2) 2 rfl (faPk2 _ _ _) ?_)
  (try simp only [Act.put, st_a, st_0, st_s])
  refine wl_give rfl (g_ld1 9 _ (w2.heap.size) (2) _ rfl (ld9 _ _ _ _ ((hM.get 0 rfl).cell (2) _ (rfl))) ?_)
  (try simp only [Act.put, st_a, st_0, st_s])
  refine wl_give rfl (g_lenT _ (g) ((((g).size : Nat) : Int)) rfl (rfl) ?_)
  (try simp only [Act.put, st_a, st_0, st_s])
  refine wl_give rfl (g_igtr 3 _ _ .i64 ((((g).size : Nat) : Int)) (100) false rfl rfl (decide_eq_false h2) ?_)
  (try simp only [Act.put, st_a, st_0, st_s])
  refine wl_give rfl (g_pickf _ _ _ (.bool false) rfl rfl ?_)
  (try simp only [Act.put, st_a, st_0, st_s])
  refine wl_nil ?_
  refine hK8 _ _ ?_
  (try clear hK8 K8)
  refine wp_cond_false rfl ?_
  refine wp_skip ?_
  refine hK7 _ _ ?_
  (try clear hK7 K7)
  refine wp_seq_k (fun K9 hK9 => ?_)
  refine wl_region ?_
  refine wl_give rfl (g_load_all 23 _ (w.heap.size) (kc (k)) 23 _ rfl (hM.get 1 rfl) Tryd.underlying23 rfl (szK _) ?_)
  (try simp only [Act.put, st_a, st_0, st_s])
  refine wl_give rfl (g_fa 44 _ (w2.heap.size) (0) (0) 0 rfl (faPk0 _ _ _) ?_)
  (try simp only [Act.put, st_a, st_0, st_s])
  refine wl_give rfl (g_ld1 3 _ (w2.heap.size) (0) _ rfl (ld3 _ _ _ _ ((hM.get 0 rfl).cell (0) _ (rfl))) ?_)
  (try simp only [Act.put, st_a, st_0, st_s])
  refine wl_give rfl (g_fa 44 _ (w2.heap.size) (0) (1) 1 rfl (faPk1 _ _ _) ?_)
  (try simp only [Act.put, st_a, st_0, st_s])
  refine wl_give rfl (g_ld1 9 _ (w2.heap.size) (1) _ rfl (ld9 _ _ _ _ ((hM.get 0 rfl).cell (1) _ (rfl))) ?_)
  (try simp only [Act.put, st_a, st_0, st_s])
  refine wl_give rfl (g_call 20 _ _ [.agg (kc (k)).toArray, .int .i64 (i), .string (x)] (kf20 _ _) rfl ((rtagS_any k i x w6 hx G hG).mono ?_))
  rintro e w10 ⟨rfl, t_⟩
  refine ⟨_, rfl, ?_⟩
  replace hM := hM.call t_
  clear t_
  (try simp only [Act.put, st_a, st_0, st_s])
  refine wl_give rfl (g_assign _ (.string (G)) rfl ?_)
  (try simp only [Act.put, st_a, st_0, st_s])
  refine wl_nil ?_
  refine hK9 _ _ ?_
  (try clear hK9 K9)
  refine wp_seq_k (fun K11 hK11 => ?_)
  refine wl_region ?_
  refine wl_give rfl (g_load_all 44 _ (w2.heap.size) (pkc (i) (x) (g) (t) (m)) 44 _ rfl (hM.get 0 rfl) Tryd.underlying44 rfl (szPk _ _ _ _ _) ?_)
  (try simp only [Act.put, st_a, st_0, st_s])
  refine wl_give rfl (g_alloc 44 (pkc (0) (⟨#[]⟩) (⟨#[]⟩) (0) (zk)) zeroPk ?_)
  intro w12 t_ b_
  replace hM := hM.new t_ b_
  clear t_ b_
  (try simp only [Act.put, st_a, st_0, st_s])
  refine wl_give rfl (g_store_all 44 _ _ (w10.heap.size) (pkc (i) (x) (g) (t) (m)) _ 44 rfl rfl (hM.get 0 rfl) (szPk _ _ _ _ _) (kk2_len _ _ _ _ _ _ _ _ _ _) (one_pkc _ _ _ _ _) ?_)
  intro w13 t_ b_
  replace hM : Ms w w13 [blk (w10.heap.size) (pkc (i) (x) (g) (t) (m)) 44, blk (w2.heap.size) (pkc (i) (x) (g) (t) (m)) 44, blk (w.heap.size) (kc (k)) 23] := hM.put 0 rfl t_ b_
  clear t_ b_
  (try simp only [Act.put, st_a, st_0, st_s])
  refine wl_nil ?_
  refine hK11 _ _ ?_
  (try clear hK11 K11)
  refine wp_seq_k (fun K14 hK14 => ?_)
  refine wl_region ?_
  refine wl_give rfl (g_move _ (.string (G)) rfl ?_)
  (try simp only [Act.put, st_a, st_0, st_s])
  refine wl_give rfl (g_fa 44 _ (w10.heap.size) (0) (2) 2 rfl (faPk2 _ _ _) ?_)
  (try simp only [Act.put, st_a, st_0, st_s])
  refine wl_give rfl (g_st1 9 _ _ (w10.heap.size) (2) (.string (G)) _ 44 rfl rfl (hM.get 0 rfl) (by rw [pkc_length]; decide) rfl rfl size9 ?_)
  intro w15 t_ b_
  replace hM : Ms w w15 [blk (w10.heap.size) (pkc (i) (x) (G) (t) (m)) 44, blk (w2.heap.size) (pkc (i) (x) (g) (t) (m)) 44, blk (w.heap.size) (kc (k)) 23] := hM.put 0 rfl t_ b_
  clear t_ b_
  (try simp only [Act.put, st_a, st_0, st_s])
  refine wl_nil ?_
  refine hK14 _ _ ?_
  (try clear hK14 K14)
  refine wp_seq_k (fun K16 hK16 => ?_)
  refine wp_region_fixed (by kernel_rfl) (by kernel_rfl) [.agg (kc (k)).toArray, .pointer (some ⟨w2.heap.size, 0, none⟩), .int .i64 (i), .pointer (some ⟨w2.heap.size, 1, none⟩), .string (x), .string (G), .string (G), .bool true, .bool true, .agg (kc (k)).toArray, .agg (pkc (i) (x) (g) (t) (m)).toArray, .bool (B), .pointer (some ⟨w2.heap.size, 2, none⟩), .string (g), .string (G), .bool (B), .bool true, .bool true, .bool true, .agg (kc (k)).toArray, .agg (pkc (i) (x) (G) (t) (m)).toArray, .bool true, .bool true, .bool true, .string (G), .int .i64 (16), .bool true, .bool true, .bool true] (by rfl) (fun wx => Ms w wx [blk (w10.heap.size) (pkc (i) (x) (G) (t) (m)) 44, blk (w2.heap.size) (pkc (i) (x) (g) (t) (m)) 44, blk (w.heap.size) (kc (k)) 23]) hM.drew ?_ ?_
  · simp only [fullL, Act.put, st_a, st_s, st_0]
    refine ⟨?_, ?_, ?_, ?_, ?_, ?_, ?_, ?_, ?_, ?_, ?_, ?_, ?_, ?_, ?_, ?_, ?_, ?_, ?_, ?_, ?_, ?_, ?_, ?_, ?_, ?_, ?_, ?_, ?_, trivial⟩
    · exact fun wx hM => gw rfl (g_load_all 23 _ (w.heap.size) (kc (k)) 23 _ rfl (hM.get 2 rfl) Tryd.underlying23 rfl (szK _) ⟨rfl, hM⟩)
    · exact fun wx hM => gw rfl (g_fa 44 _ (w2.heap.size) (0) (0) 0 rfl (faPk0 _ _ _) ⟨rfl, hM⟩)
    · exact fun wx hM => gw rfl (g_ld1 3 _ (w2.heap.size) (0) _ rfl (ld3 _ _ _ _ ((hM.get 1 rfl).cell (0) _ (rfl))) ⟨rfl, hM⟩)
    · exact fun wx hM => gw rfl (g_fa 44 _ (w2.heap.size) (0) (1) 1 rfl (faPk1 _ _ _) ⟨rfl, hM⟩)
    · exact fun wx hM => gw rfl (g_ld1 9 _ (w2.heap.size) (1) _ rfl (ld9 _ _ _ _ ((hM.get 1 rfl).cell (1) _ (rfl))) ⟨rfl, hM⟩)
    · exact fun wx hM => gw rfl (g_call 21 _ _ [.agg (kc (k)).toArray, .int .i64 (i), .string (x)] (kf21 _ _) rfl ((tagS_any k i x wx (hM.tabs hT) hx G hG).mono (fun _ _ ⟨h1_, h2_⟩ => ⟨_, h1_, rfl, hM.call h2_⟩)))
    · exact fun wx hM => gw rfl (g_move _ (.string (G)) rfl ⟨rfl, hM⟩)
    · exact fun wx hM => gw rfl (g_seql 9 _ _ (G) rfl rfl ⟨rfl, hM⟩)
    · exact fun wx hM => gw rfl (g_move _ (.bool true) rfl ⟨rfl, hM⟩)
    · exact fun wx hM => gw rfl (g_load_all 23 _ (w.heap.size) (kc (k)) 23 _ rfl (hM.get 2 rfl) Tryd.underlying23 rfl (szK _) ⟨rfl, hM⟩)
    · exact fun wx hM => gw rfl (g_load_all 44 _ (w2.heap.size) (pkc (i) (x) (g) (t) (m)) 44 _ rfl (hM.get 1 rfl) Tryd.underlying44 rfl (szPk _ _ _ _ _) ⟨rfl, hM⟩)
    · exact fun wx hM => gw rfl (g_call 22 _ _ [.agg (kc (k)).toArray, .agg (pkc (i) (x) (g) (t) (m)).toArray] (kf22 _ _) rfl ((sright_any k i x g t m wx (hM.tabs hT) hx hg B hB).mono (fun _ _ ⟨h1_, h2_⟩ => ⟨_, h1_, rfl, hM.call h2_⟩)))
    · exact fun wx hM => gw rfl (g_fa 44 _ (w2.heap.size) (0) (2) 2 rfl (faPk2 _ _ _) ⟨rfl, hM⟩)
    · exact fun wx hM => gw rfl (g_ld1 9 _ (w2.heap.size) (2) _ rfl (ld9 _ _ _ _ ((hM.get 1 rfl).cell (2) _ (rfl))) ⟨rfl, hM⟩)
    · exact fun wx hM => gw rfl (g_move _ (.string (G)) rfl ⟨rfl, hM⟩)
    · exact fun wx hM => gw rfl (g_ste _ _ (g) (G) (B) rfl rfl (hB3.out) ⟨rfl, hM⟩)
    · exact fun wx hM => gw rfl (g_beq _ _ (B) (B) true rfl rfl (beq_self_eq_true B) ⟨rfl, hM⟩)
    · exact fun wx hM => gw rfl (g_pickt _ _ _ (.bool true) rfl rfl ⟨rfl, hM⟩)
    · exact fun wx hM => gw rfl (g_move _ (.bool true) rfl ⟨rfl, hM⟩)
    · exact fun wx hM => gw rfl (g_load_all 23 _ (w.heap.size) (kc (k)) 23 _ rfl (hM.get 2 rfl) Tryd.underlying23 rfl (szK _) ⟨rfl, hM⟩)
    · exact fun wx hM => gw rfl (g_load_all 44 _ (w10.heap.size) (pkc (i) (x) (G) (t) (m)) 44 _ rfl (hM.get 0 rfl) Tryd.underlying44 rfl (szPk _ _ _ _ _) ⟨rfl, hM⟩)
    · exact fun wx hM => gw rfl (g_call 22 _ _ [.agg (kc (k)).toArray, .agg (pkc (i) (x) (G) (t) (m)).toArray] (kf22 _ _) rfl ((sright_any k i x G t m wx (hM.tabs hT) hx hGs true hB2).mono (fun _ _ ⟨h1_, h2_⟩ => ⟨_, h1_, rfl, hM.call h2_⟩)))
    · exact fun wx hM => gw rfl (g_pickt _ _ _ (.bool true) rfl rfl ⟨rfl, hM⟩)
    · exact fun wx hM => gw rfl (g_move _ (.bool true) rfl ⟨rfl, hM⟩)
    · exact fun wx hM => gw rfl (g_move _ (.string (G)) rfl ⟨rfl, hM⟩)
    · exact fun wx hM => gw rfl (g_lenT _ (G) (16) rfl (hG16.out) ⟨rfl, hM⟩)
    · exact fun wx hM => gw rfl (g_ieq 3 _ _ .i64 (16) (16) true rfl rfl (by decide) ⟨rfl, hM⟩)
    · exact fun wx hM => gw rfl (g_pickt _ _ _ (.bool true) rfl rfl ⟨rfl, hM⟩)
    · exact fun wx hM => gw rfl (g_assign _ (.bool true) rfl ⟨rfl, hM⟩)
  · simp only [fullL, Act.put, st_a, st_s, st_0]
    intro w17 hM
    refine hK16 _ _ ?_
    (try clear hK16 K16)
    refine wp_ret ?_
    go_ret
    exact ⟨rfl, hM.below⟩
theorem walk (l0 : List UInt8) (h0 : l0.length = 32) (i : Int) (x g : ByteArray) (t : Int) (m : Ky) (w : World) (hT : Tabs w) : Calls Tryd.prog 4 #[.agg (bc l0).toArray, .agg (pkc i x g t m).toArray] w fun e w' => e = .returned (.bool true) ∧ Below w.heap.size w w' := by
  by_cases h1 : 1100 < ((x.size : Nat) : Int)
  · exact walk_1 ⟨l0, h0⟩ i x g t m w hT h1
  · by_cases h2 : 100 < ((g.size : Nat) : Int)
    · exact walk_2 ⟨l0, h0⟩ i x g t m w hT h1 h2
    · exact walk_3 ⟨l0, h0⟩ i x g t m w hT h1 h2 (by omega) (by unfold maxLen; omega) _ ⟨rfl⟩ (by rw [tgs_size]; unfold maxLen; decide) _ ⟨rfl⟩ ⟨decide_eq_true rfl⟩ ⟨rfl⟩ ⟨by rw [tgs_size]; rfl⟩
end Go.Proofs.YtphocklnhoakcaaDoor.senderTags
