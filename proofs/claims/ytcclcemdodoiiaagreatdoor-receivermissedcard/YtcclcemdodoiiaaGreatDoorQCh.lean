/- What (chain.Mind).back, Tell, Learn and chain.Check answer, and the reference's Walk. -/
import Derived.Test.YtcclcemdodoiiaaGreatDoorQRunG
import Derived.Test.YtcclcemdodoiiaaGreatDoorQRef4
import Derived.Test.YtcclcemdodoiiaaGreatDoorQShaW5
import Derived.WalkKit
import Derived.WalkSpells
import Derived.WalkLawsBesides
namespace Go.Proofs.YtcclcemdodoiiaaGreatDoor
set_option maxRecDepth 10000
open Go Go.RowKit
set_option linter.unusedVariables false
set_option linter.unusedSimpArgs false

set_option maxHeartbeats 4000000 in
theorem back_any (k K : Ky) (n i d : Int) (w : World) (hT : Tabs w) (hd : Shut (IntKind.i64.wrap (n - i) = d)) (hK : Shut (wl (min d 4096).toNat k = K)) : Calls Tryz.prog 66 #[.agg (mc k n).toArray, .int .i64 i] w fun e w' => e = .returned (.agg (mc K i).toArray) ∧ Below w.heap.size w w' := by
  have hM := Ms.refl w
  go_enter Tryz.func66, Tryz.ntmps66
  refine wp_seq_k fun _ κ1 => wl_region (wl_give rfl (g_box 92 _ (mc (k) (n)) rfl ?_))
  intro w2 t_ b_
  replace hM := hM.new t_ b_
  clear t_ b_
  try simp only [nz]
  refine wl_give rfl (g_alloc 92 (mc (zk) (0)) zeroM fun w3 t_ b_ => ?_)
  replace hM := hM.new t_ b_
  clear t_ b_
  try simp only [nz]
  refine wl_nil (κ1 _ _ ?_)
  refine wp_seq_k fun _ κ4 => wl_region (wl_fare kn ?_)
  simp (disch := omega) only [fx, pv, kx]
  refine wl_give rfl (g_load 23 _ (w.heap.size) (0) 32 _ 92 _ rfl (hM.get 1 rfl) Tryz.underlying23 rfl size23 (by rw [mc_length]; decide) (kc (k)) (mc_take _ _) ?_)
  refine wl_fare kn ?_
  simp (disch := omega) only [fx, pv, kx, (hM.get 1 rfl).cell 32 (.int .i64 (n)) (mc_at _ _), (hd.out : IntKind.i64.wrap ((n) - (i)) = d)]
  refine wl_give rfl (g_cM hM (kf90 _ _) (swalk_any k K d w3 (hM.tabs hT) hK) rfl fun w5 hM => wl_fare kn ?_)
  simp (disch := omega) only [fx, pv, kx]
  refine wl_give rfl (g_bldM _ _ (K) (i) rfl rfl ?_)
  try simp only [nz]
  refine wl_give rfl (g_store_all 92 _ _ (w2.heap.size) (mc (K) (i)) _ 92 rfl rfl (hM.get 0 rfl) (szM _ _) (mm2_len _ _ _ _) (one_mc _ _) fun w6 t_ b_ => ?_)
  replace hM : Ms w w6 [blk (w2.heap.size) (mc (K) (i)) 92, blk (w.heap.size) (mc (k) (n)) 92] := hM.put 0 rfl t_ b_
  clear t_ b_
  try simp only [nz]
  refine wl_nil (κ4 _ _ ?_)
  refine wp_ret ?_
  (try simp only [Exit.inBlock, Exit.then])
  exact bodyPost_ret (results_blk rfl _ (mc (K) (i)) _ rfl (hM.get 0 rfl) fieldsM rfl (szM _ _)) rfl ⟨rfl, hM.below⟩
set_option maxHeartbeats 4000000 in
theorem tell_any (k : Ky) (n i : Int) (w : World) (hT : Tabs w) (K : Ky) (E : Int) (hn : n ≤ 9223372036854775807) (h : Shut (tl k n i = (K, E))) : Calls Tryz.prog 42 #[.agg (mc k n).toArray, .int .i64 i] w fun e w' => e = .returned (.tuple #[.agg (kc K).toArray, .int .i64 E]) ∧ Below w.heap.size w w' := by
  have hM := Ms.refl w
  go_enter Tryz.func42, Tryz.ntmps42
  refine wp_seq_k fun _ κ1 => wl_region (wl_give rfl (g_box 92 _ (mc (k) (n)) rfl ?_))
  intro w2 t_ b_
  replace hM := hM.new t_ b_
  clear t_ b_
  try simp only [nz]
  refine wl_give rfl (g_alloc 23 (kc (zk)) zeroK fun w3 t_ b_ => ?_)
  replace hM := hM.new t_ b_
  clear t_ b_
  refine wl_fare kn ?_
  simp (disch := omega) only [fx, pv, kx]
  refine wl_nil (κ1 _ _ ?_)
  refine wp_seq_k fun _ κ4 => wp_seq_k fun _ κ5 => ?_
  by_cases h1 : i < 0
  · obtain ⟨rfl, rfl⟩ : K = zk ∧ E = 1 := by have h := h.out; unfold tl at h; rw [if_pos (.inl h1)] at h; cases h; exact ⟨rfl, rfl⟩
    refine wl_region (wl_fare kn ?_)
    simp (disch := omega) only [fx, pv, kx]
    refine wl_nil (κ5 _ _ ?_)
    refine wp_cond_true rfl (wp_seq_k fun _ κ6 => ?_)
    refine wl_region (wl_give rfl (g_bldK0 ?_))
    try simp only [nz]
    refine wl_give rfl (g_store_all 23 _ _ (w2.heap.size) (kc (zk)) _ 23 rfl rfl (hM.get 0 rfl) (szK _) (kk_len _ _) (one_kc _) fun w7 t_ b_ => ?_)
    replace hM : Ms w w7 [blk (w2.heap.size) (kc (zk)) 23, blk (w.heap.size) (mc (k) (n)) 92] := hM.put 0 rfl t_ b_
    clear t_ b_
    refine wl_fare kn ?_
    simp (disch := omega) only [fx, pv, kx]
    refine wl_nil (κ6 _ _ ?_)
    refine wp_ret ?_
    (try simp only [Exit.inBlock, Exit.then])
    exact bodyPost_ret (results_blk_tmp rfl _ (kc (zk)) (.int .i64 (1)) _ rfl rfl (hM.get 0 rfl) Tryz.underlying23 rfl (szK _)) rfl ⟨rfl, hM.below⟩
  · skip
    by_cases h2 : n < i
    · obtain ⟨rfl, rfl⟩ : K = zk ∧ E = 1 := by have h := h.out; unfold tl at h; rw [if_pos (.inr h2)] at h; cases h; exact ⟨rfl, rfl⟩
      refine wl_region (wl_fare kn ?_)
      simp (disch := omega) only [fx, pv, kx, (hM.get 1 rfl).cell 32 (.int .i64 (n)) (mc_at _ _)]
      refine wl_nil (κ5 _ _ ?_)
      refine wp_cond_true rfl (wp_seq_k fun _ κ8 => ?_)
      refine wl_region (wl_give rfl (g_bldK0 ?_))
      try simp only [nz]
      refine wl_give rfl (g_store_all 23 _ _ (w2.heap.size) (kc (zk)) _ 23 rfl rfl (hM.get 0 rfl) (szK _) (kk_len _ _) (one_kc _) fun w9 t_ b_ => ?_)
      replace hM : Ms w w9 [blk (w2.heap.size) (kc (zk)) 23, blk (w.heap.size) (mc (k) (n)) 92] := hM.put 0 rfl t_ b_
      clear t_ b_
      refine wl_fare kn ?_
      simp (disch := omega) only [fx, pv, kx]
      refine wl_nil (κ8 _ _ ?_)
      refine wp_ret ?_
      (try simp only [Exit.inBlock, Exit.then])
      exact bodyPost_ret (results_blk_tmp rfl _ (kc (zk)) (.int .i64 (1)) _ rfl rfl (hM.get 0 rfl) Tryz.underlying23 rfl (szK _)) rfl ⟨rfl, hM.below⟩
    · obtain rfl : E = 0 := by have h := h.out; unfold tl at h; rw [if_neg (fun h3 => h3.elim h1 h2)] at h; cases h; rfl
      obtain ⟨d, hd⟩ : ∃ d, Shut (IntKind.i64.wrap (n - i) = d) := ⟨_, ⟨rfl⟩⟩
      have hdi : d = n - i := by rw [← hd.out]; exact wrap_id _ (by omega) (by omega)
      have hK : Shut (wl (min d 4096).toNat k = K) := ⟨by have h := h.out; unfold tl at h; rw [if_neg (fun h3 => h3.elim h1 h2)] at h; cases h; rw [hdi]⟩
      refine wl_region (wl_fare kn ?_)
      simp (disch := omega) only [fx, pv, kx, (hM.get 1 rfl).cell 32 (.int .i64 (n)) (mc_at _ _)]
      refine wl_nil (κ5 _ _ ?_)
      refine wp_cond_false rfl (wp_skip ?_)
      refine κ4 _ _ (wp_seq_k fun _ κ10 => ?_)
      refine wl_region (wl_give rfl (g_load_all 92 _ (w.heap.size) (mc (k) (n)) 92 _ rfl (hM.get 1 rfl) Tryz.underlying92 rfl (szM _ _) ?_))
      refine wl_fare kn ?_
      simp (disch := omega) only [fx, pv, kx]
      refine wl_give rfl (g_cM hM (kf66 _ _) (back_any k K n i d w3 (hM.tabs hT) hd hK) rfl fun w11 hM => ?_)
      try simp only [nz]
      refine wl_give rfl (g_fldM _ (K) (i) rfl ?_)
      try simp only [nz]
      refine wl_give rfl (g_store_all 23 _ _ (w2.heap.size) (kc (K)) _ 23 rfl rfl (hM.get 0 rfl) (szK _) (kk_len _ _) (one_kc _) fun w12 t_ b_ => ?_)
      replace hM : Ms w w12 [blk (w2.heap.size) (kc (K)) 23, blk (w.heap.size) (mc (k) (n)) 92] := hM.put 0 rfl t_ b_
      clear t_ b_
      refine wl_fare kn ?_
      simp (disch := omega) only [fx, pv, kx]
      refine wl_nil (κ10 _ _ ?_)
      refine wp_ret ?_
      (try simp only [Exit.inBlock, Exit.then])
      exact bodyPost_ret (results_blk_tmp rfl _ (kc (K)) (.int .i64 (0)) _ rfl rfl (hM.get 0 rfl) Tryz.underlying23 rfl (szK _)) rfl ⟨rfl, hM.below⟩
set_option maxHeartbeats 4000000 in
theorem check_any (k0 : Ky) (p : Int) (k : Ky) (i f : Int) (w : World) (hT : Tabs w) (E : Int) (hi : i ≤ 9223372036854775807) (h : Shut (ck k0 p k i f = E)) : Calls Tryz.prog 67 #[.agg (kc k0).toArray, .int .i64 p, .agg (kc k).toArray, .int .i64 i, .int .i64 f] w fun e w' => e = .returned (.int .i64 E) ∧ Below w.heap.size w w' := by
  have hM := Ms.refl w
  go_enter Tryz.func67, Tryz.ntmps67
  refine wp_seq_k fun _ κ1 => wl_region (wl_give rfl (g_box 23 _ (kc (k0)) rfl ?_))
  intro w2 t_ b_
  replace hM := hM.new t_ b_
  clear t_ b_
  try simp only [nz]
  refine wl_give rfl (g_box 23 _ (kc (k)) rfl fun w3 t_ b_ => ?_)
  replace hM := hM.new t_ b_
  clear t_ b_
  refine wl_fare kn ?_
  simp (disch := omega) only [fx, pv, kx]
  refine wl_nil (κ1 _ _ ?_)
  refine wp_seq_k fun _ κ4 => wp_seq_k fun _ κ5 => ?_
  by_cases h1 : p < 0
  · obtain rfl : E = 1 := by have h := h.out; unfold ck at h; rw [if_pos (.inl h1)] at h; exact h.symm
    refine wl_region (wl_fare kn ?_)
    simp (disch := omega) only [fx, pv, kx]
    refine wl_nil (κ5 _ _ ?_)
    refine wp_cond_true rfl (wp_seq_k fun _ κ6 => ?_)
    refine wl_region (wl_fare kn ?_)
    simp (disch := omega) only [fx, pv, kx]
    refine wl_nil (κ6 _ _ ?_)
    refine wp_ret ?_
    go_ret
    exact ⟨rfl, hM.below⟩
  · skip
    by_cases h2 : i ≤ p
    · obtain rfl : E = 1 := by have h := h.out; unfold ck at h; rw [if_pos (.inr h2)] at h; exact h.symm
      refine wl_region (wl_fare kn ?_)
      simp (disch := omega) only [fx, pv, kx]
      refine wl_nil (κ5 _ _ ?_)
      refine wp_cond_true rfl (wp_seq_k fun _ κ7 => ?_)
      refine wl_region (wl_fare kn ?_)
      simp (disch := omega) only [fx, pv, kx]
      refine wl_nil (κ7 _ _ ?_)
      refine wp_ret ?_
      go_ret
      exact ⟨rfl, hM.below⟩
    · obtain ⟨d, hd⟩ : ∃ d, Shut (IntKind.i64.wrap (i - p) = d) := ⟨_, ⟨rfl⟩⟩
      have hdi : d = i - p := by rw [← hd.out]; exact wrap_id _ (by omega) (by omega)
      obtain ⟨m, hm⟩ : ∃ m, Shut (min f 1024 = m) := ⟨_, ⟨rfl⟩⟩
      have hm2 := hm.out
      refine wl_region (wl_fare kn ?_)
      simp (disch := omega) only [fx, pv, kx]
      refine wl_nil (κ5 _ _ ?_)
      refine wp_cond_false rfl (wp_skip ?_)
      refine κ4 _ _ (wp_seq_k fun _ κ8 => ?_)
      refine wp_seq_k fun _ κ9 => ?_
      by_cases h3 : m < d
      · obtain rfl : E = 16 := by have h := h.out; unfold ck at h; rw [if_neg (fun h5 => h5.elim h1 h2)] at h; rw [if_pos (by omega)] at h; exact h.symm
        refine wl_region (wl_fare kn ?_)
        simp (disch := omega) only [fx, pv, kx, (hd.out : IntKind.i64.wrap ((i) - (p)) = d)]
        refine wl_give rfl (g_min _ _ (f) (1024) (m) rfl rfl hm.out ?_)
        refine wl_fare kn ?_
        simp (disch := omega) only [fx, pv, kx]
        refine wl_nil (κ9 _ _ ?_)
        refine wp_cond_true rfl (wp_seq_k fun _ κ10 => ?_)
        refine wl_region (wl_fare kn ?_)
        simp (disch := omega) only [fx, pv, kx]
        refine wl_nil (κ10 _ _ ?_)
        refine wp_ret ?_
        go_ret
        exact ⟨rfl, hM.below⟩
      · obtain ⟨K, hK⟩ : ∃ K, Shut (wl (min d 4096).toNat k = K) := ⟨_, ⟨rfl⟩⟩
        have hK2 : wl (i - p).toNat k = K := by rw [← hK.out]; congr 1; omega
        clear hm2
        refine wl_region (wl_fare kn ?_)
        simp (disch := omega) only [fx, pv, kx, (hd.out : IntKind.i64.wrap ((i) - (p)) = d)]
        refine wl_give rfl (g_min _ _ (f) (1024) (m) rfl rfl hm.out ?_)
        refine wl_fare kn ?_
        simp (disch := omega) only [fx, pv, kx]
        refine wl_nil (κ9 _ _ ?_)
        refine wp_cond_false rfl (wp_skip ?_)
        refine κ8 _ _ (wp_seq_k fun _ κ11 => ?_)
        refine wp_seq_k fun _ κ12 => ?_
        by_cases h4 : K.l = k0.l ∧ p = p
        · obtain rfl : E = 0 := by have h := h.out; unfold ck at h; rw [if_neg (fun h5 => h5.elim h1 h2)] at h; rw [if_neg (by have := hm.out; omega), hK2, if_pos h4.1] at h; exact h.symm
          refine wp_region_fixed (by kernel_rfl) (by kernel_rfl) [.agg (kc (k)).toArray, .int .i64 (i), .agg (mc (k) (i)).toArray, .int .i64 (p), .agg (mc (K) (p)).toArray, .agg (kc (k0)).toArray, .int .i64 (p), .agg (mc (k0) (p)).toArray, .bool false] (by rfl) (fun wx => Ms w wx [blk (w2.heap.size) (kc (k)) 23, blk (w.heap.size) (kc (k0)) 23]) hM.drew ?_ ?_
          · simp only [fullL, Act.put, st_a, st_s, st_0]
            refine ⟨?_, ?_, ?_, ?_, ?_, ?_, ?_, ?_, ?_, trivial⟩
            · exact fun wx hM => gw rfl (g_load_all 23 _ (w2.heap.size) (kc (k)) 23 _ rfl (hM.get 0 rfl) Tryz.underlying23 rfl (szK _) ⟨rfl, hM⟩)
            · exact mvL rfl rfl
            · exact fun wx hM => gw rfl (g_bldM _ _ (k) (i) rfl rfl ⟨rfl, hM⟩)
            · exact mvL rfl rfl
            · exact fun wx hM => gw rfl (g_call 66 _ _ [.agg (mc (k) (i)).toArray, .int .i64 (p)] (kf66 _ _) rfl ((back_any k K i p d wx (hM.tabs hT) hd hK).mono (fun _ _ ⟨h1_, h2_⟩ => ⟨_, h1_, rfl, hM.call h2_⟩)))
            · exact fun wx hM => gw rfl (g_load_all 23 _ (w.heap.size) (kc (k0)) 23 _ rfl (hM.get 1 rfl) Tryz.underlying23 rfl (szK _) ⟨rfl, hM⟩)
            · exact mvL rfl rfl
            · exact fun wx hM => gw rfl (g_bldM _ _ (k0) (p) rfl rfl ⟨rfl, hM⟩)
            · exact fun wx hM => gw rfl (g_neqM _ _ (K) (k0) (p) (p) true rfl rfl (decide_eq_true h4) ⟨rfl, hM⟩)
          · simp only [fullL, Act.put, st_a, st_s, st_0]
            intro w13 hM
            refine κ12 _ _ (wp_cond_false rfl ?_)
            refine wp_skip (κ11 _ _ ?_)
            refine wp_seq_k fun _ κ14 => wl_region (wl_fare kn ?_)
            simp (disch := omega) only [fx, pv, kx]
            refine wl_nil (κ14 _ _ ?_)
            refine wp_ret ?_
            go_ret
            exact ⟨rfl, hM.below⟩
        · obtain rfl : E = 13 := by have h := h.out; unfold ck at h; rw [if_neg (fun h5 => h5.elim h1 h2)] at h; rw [if_neg (by have := hm.out; omega), hK2, if_neg (fun h6 => h4 ⟨h6, rfl⟩)] at h; exact h.symm
          refine wp_region_fixed (by kernel_rfl) (by kernel_rfl) [.agg (kc (k)).toArray, .int .i64 (i), .agg (mc (k) (i)).toArray, .int .i64 (p), .agg (mc (K) (p)).toArray, .agg (kc (k0)).toArray, .int .i64 (p), .agg (mc (k0) (p)).toArray, .bool true] (by rfl) (fun wx => Ms w wx [blk (w2.heap.size) (kc (k)) 23, blk (w.heap.size) (kc (k0)) 23]) hM.drew ?_ ?_
          · simp only [fullL, Act.put, st_a, st_s, st_0]
            refine ⟨?_, ?_, ?_, ?_, ?_, ?_, ?_, ?_, ?_, trivial⟩
            · exact fun wx hM => gw rfl (g_load_all 23 _ (w2.heap.size) (kc (k)) 23 _ rfl (hM.get 0 rfl) Tryz.underlying23 rfl (szK _) ⟨rfl, hM⟩)
            · exact mvL rfl rfl
            · exact fun wx hM => gw rfl (g_bldM _ _ (k) (i) rfl rfl ⟨rfl, hM⟩)
            · exact mvL rfl rfl
            · exact fun wx hM => gw rfl (g_call 66 _ _ [.agg (mc (k) (i)).toArray, .int .i64 (p)] (kf66 _ _) rfl ((back_any k K i p d wx (hM.tabs hT) hd hK).mono (fun _ _ ⟨h1_, h2_⟩ => ⟨_, h1_, rfl, hM.call h2_⟩)))
            · exact fun wx hM => gw rfl (g_load_all 23 _ (w.heap.size) (kc (k0)) 23 _ rfl (hM.get 1 rfl) Tryz.underlying23 rfl (szK _) ⟨rfl, hM⟩)
            · exact mvL rfl rfl
            · exact fun wx hM => gw rfl (g_bldM _ _ (k0) (p) rfl rfl ⟨rfl, hM⟩)
            · exact fun wx hM => gw rfl (g_neqM _ _ (K) (k0) (p) (p) false rfl rfl (decide_eq_false h4) ⟨rfl, hM⟩)
          · simp only [fullL, Act.put, st_a, st_s, st_0]
            intro w15 hM
            refine κ12 _ _ (wp_cond_true rfl ?_)
            refine wp_seq_k fun _ κ16 => wl_region (wl_fare kn ?_)
            simp (disch := omega) only [fx, pv, kx]
            refine wl_nil (κ16 _ _ ?_)
            refine wp_ret ?_
            go_ret
            exact ⟨rfl, hM.below⟩
set_option maxHeartbeats 4000000 in
theorem learn_any (k0 : Ky) (p : Int) (k : Ky) (i f : Int) (w : World) (hT : Tabs w) (K : Ky) (n E2 : Int) (hi : i ≤ 9223372036854775807) (h : Shut (ln k0 p k i f = ((K, n), E2))) : Calls Tryz.prog 43 #[.agg (mc k0 p).toArray, .agg (kc k).toArray, .int .i64 i, .int .i64 f] w fun e w' => e = .returned (.tuple #[.agg (mc K n).toArray, .int .i64 E2]) ∧ Below w.heap.size w w' := by
  obtain ⟨E, hE⟩ : ∃ E, ck k0 p k i f = E := ⟨_, rfl⟩
  have hM := Ms.refl w
  go_enter Tryz.func43, Tryz.ntmps43
  refine wp_seq_k fun _ κ1 => wl_region (wl_give rfl (g_box 92 _ (mc (k0) (p)) rfl ?_))
  intro w2 t_ b_
  replace hM := hM.new t_ b_
  clear t_ b_
  try simp only [nz]
  refine wl_give rfl (g_box 23 _ (kc (k)) rfl fun w3 t_ b_ => ?_)
  replace hM := hM.new t_ b_
  clear t_ b_
  try simp only [nz]
  refine wl_give rfl (g_alloc 92 (mc (zk) (0)) zeroM fun w4 t_ b_ => ?_)
  replace hM := hM.new t_ b_
  clear t_ b_
  refine wl_fare kn ?_
  simp (disch := omega) only [fx, pv, kx]
  refine wl_nil (κ1 _ _ ?_)
  refine wp_seq_k fun _ κ5 => wp_seq_k fun _ κ6 => wl_region (wl_fare kn ?_)
  simp (disch := omega) only [fx, pv, kx]
  refine wl_give rfl (g_load 23 _ (w.heap.size) (0) 32 _ 92 _ rfl (hM.get 2 rfl) Tryz.underlying23 rfl size23 (by rw [mc_length]; decide) (kc (k0)) (mc_take _ _) ?_)
  refine wl_fare kn ?_
  simp (disch := omega) only [fx, pv, kx, (hM.get 2 rfl).cell 32 (.int .i64 (p)) (mc_at _ _)]
  refine wl_give rfl (g_load_all 23 _ (w2.heap.size) (kc (k)) 23 _ rfl (hM.get 1 rfl) Tryz.underlying23 rfl (szK _) ?_)
  refine wl_fare kn ?_
  simp (disch := omega) only [fx, pv, kx]
  refine wl_give rfl (g_cM hM (kf67 _ _) (check_any k0 p k i f w4 (hM.tabs hT) E hi ⟨hE⟩) rfl fun w7 hM => wl_fare kn ?_)
  simp (disch := omega) only [fx, pv, kx]
  refine wl_nil (κ6 _ _ ?_)
  refine wp_seq_k fun _ κ8 => ?_
  by_cases h1 : E ≠ 0
  · obtain ⟨⟨rfl, rfl⟩, rfl⟩ : (K = zk ∧ n = 0) ∧ E = E2 := by have h := h.out; unfold ln at h; rw [hE, if_neg h1] at h; cases h; exact ⟨⟨rfl, rfl⟩, rfl⟩
    refine wl_region (wl_fare kn ?_)
    simp (disch := omega) only [fx, pv, kx]
    refine wl_nil (κ8 _ _ ?_)
    refine wp_cond_true rfl (wp_seq_k fun _ κ9 => ?_)
    refine wl_region (wl_give rfl (g_bldM0 ?_))
    refine wl_fare kn ?_
    simp (disch := omega) only [fx, pv, kx]
    refine wl_give rfl (g_store_all 92 _ _ (w3.heap.size) (mc (zk) (0)) _ 92 rfl rfl (hM.get 0 rfl) (szM _ _) (mm2_len _ _ _ _) (one_mc _ _) fun w10 t_ b_ => ?_)
    replace hM : Ms w w10 [blk (w3.heap.size) (mc (zk) (0)) 92, blk (w2.heap.size) (kc (k)) 23, blk (w.heap.size) (mc (k0) (p)) 92] := hM.put 0 rfl t_ b_
    clear t_ b_
    refine wl_fare kn ?_
    simp (disch := omega) only [fx, pv, kx]
    refine wl_nil (κ9 _ _ ?_)
    refine wp_ret ?_
    (try simp only [Exit.inBlock, Exit.then])
    exact bodyPost_ret (results_blk_tmp rfl _ (mc (zk) (0)) (.int .i64 (E)) _ rfl rfl (hM.get 0 rfl) fieldsM rfl (szM _ _)) rfl ⟨rfl, hM.below⟩
  · obtain ⟨⟨rfl, rfl⟩, rfl⟩ : (k = K ∧ i = n) ∧ E2 = 0 := by have h := h.out; unfold ln at h; rw [if_pos (by omega)] at h; cases h; exact ⟨⟨rfl, rfl⟩, rfl⟩
    refine wl_region (wl_fare kn ?_)
    simp (disch := omega) only [fx, pv, kx]
    refine wl_nil (κ8 _ _ ?_)
    refine wp_cond_false rfl (wp_skip ?_)
    refine κ5 _ _ (wp_seq_k fun _ κ11 => ?_)
    refine wl_region (wl_give rfl (g_load_all 23 _ (w2.heap.size) (kc (k)) 23 _ rfl (hM.get 1 rfl) Tryz.underlying23 rfl (szK _) ?_))
    refine wl_fare kn ?_
    simp (disch := omega) only [fx, pv, kx]
    refine wl_give rfl (g_bldM _ _ (k) (i) rfl rfl ?_)
    try simp only [nz]
    refine wl_give rfl (g_store_all 92 _ _ (w3.heap.size) (mc (k) (i)) _ 92 rfl rfl (hM.get 0 rfl) (szM _ _) (mm2_len _ _ _ _) (one_mc _ _) fun w12 t_ b_ => ?_)
    replace hM : Ms w w12 [blk (w3.heap.size) (mc (k) (i)) 92, blk (w2.heap.size) (kc (k)) 23, blk (w.heap.size) (mc (k0) (p)) 92] := hM.put 0 rfl t_ b_
    clear t_ b_
    refine wl_fare kn ?_
    simp (disch := omega) only [fx, pv, kx]
    refine wl_nil (κ11 _ _ ?_)
    refine wp_ret ?_
    (try simp only [Exit.inBlock, Exit.then])
    exact bodyPost_ret (results_blk_tmp rfl _ (mc (k) (i)) (.int .i64 (0)) _ rfl rfl (hM.get 0 rfl) fieldsM rfl (szM _ _)) rfl ⟨rfl, hM.below⟩
end Go.Proofs.YtcclcemdodoiiaaGreatDoor
