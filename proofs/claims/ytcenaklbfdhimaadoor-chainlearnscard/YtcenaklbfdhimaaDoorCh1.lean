/- What the program's (chain.Mind).back and Tell, Tagger, Next, Key and Known answer, and the reference's Tell; nothing that was there is changed. -/
import Derived.Test.YtcenaklbfdhimaaDoorChOps
import Derived.WalkKit
import Derived.WalkSpells
import Derived.WalkLawsBesides
namespace Go.Proofs.YtcenaklbfdhimaaDoor
open Go Go.RowKit
set_option linter.unusedVariables false
set_option linter.unusedSimpArgs false

theorem kc_tg (k : Ky) (t : ByteArray) : kc (tg k t) = bc (tag k.l t.data.toList) := by simp only [kc, tg]
theorem kc_sm (k : Ky) : kc (sm k) = bc (sum k.l) := by simp only [kc, sm]
theorem swalk_any (k K : Ky) (d : Int) (w : World) (hT : Tabs w) (hK : Shut (wl (min d 4096).toNat k = K)) : Calls Tryd.prog 31 #[.agg (kc k).toArray, .int .i64 d] w fun e w' => e = .returned (.agg (kc K).toArray) ∧ Below w.heap.size w w' := by
  have h := walk_min k.l d (min d 4096) k.len w hT rfl
  rw [← hK.out]; exact h
theorem rwalk_any (k K : Ky) (d : Int) (w : World) (hK : Shut (wl (min d 4096).toNat k = K)) : Calls Tryd.prog 22 #[.agg (kc k).toArray, .int .i64 d] w fun e w' => e = .returned (.agg (kc K).toArray) ∧ Below w.heap.size w w' := by
  have h := rwalk_min k.l d (min d 4096) k.len w rfl
  rw [← hK.out]; exact h
theorem mof_any (k K : Ky) (t : ByteArray) (w : World) (hT : Tabs w) (ht : t.size ≤ 300) (hK : Shut (tg k t = K)) : Calls Tryd.prog 23 #[.agg (kc k).toArray, .string t] w fun e w' => e = .returned (.agg (kc K).toArray) ∧ Below w.heap.size w w' := by
  have h := of_any k.l k.len t (Nat.le_trans ht (by decide)) w hT
  rw [← hK.out, kc_tg]; exact h
theorem mrof_any (k K : Ky) (t : ByteArray) (w : World) (ht : t.size ≤ 300) (hK : Shut (tg k t = K)) : Calls Tryd.prog 14 #[.agg (kc k).toArray, .string t] w fun e w' => e = .returned (.agg (kc K).toArray) ∧ Below w.heap.size w w' := by
  have h := rof_any k.l k.len t ht w
  rw [← hK.out, kc_tg]; exact h
theorem rsm_any (k K : Ky) (w : World) (hK : Shut (sm k = K)) : Calls Tryd.prog 21 #[.string ⟨k.l.toArray⟩] w fun e w' => e = .returned (.agg (kc K).toArray) ∧ Below w.heap.size w w' := by
  have h := rsum_d ⟨k.l.toArray⟩ (by show k.l.toArray.size ≤ _; simp [k.len]) (sum k.l) rfl w
  rw [← hK.out, kc_sm]; exact h
set_option maxRecDepth 10000 in
set_option maxHeartbeats 4000000 in
theorem back_any (k K : Ky) (n i d : Int) (w : World) (hT : Tabs w) (hd : Shut (IntKind.i64.wrap (n - i) = d)) (hK : Shut (wl (min d 4096).toNat k = K)) : Calls Tryd.prog 25 #[.agg (mc k n).toArray, .int .i64 i] w fun e w' => e = .returned (.agg (mc K i).toArray) ∧ Below w.heap.size w w' := by
  go_enter Tryd.func25, Tryd.ntmps25
  go_wp2_with (first
    | ((with_reducible refine at_boxD 2 34 ?_); refine L_box 34 _ (mc (k) (n)) rfl ?_; intro w1 t_ b_m; have l_hB_m : w.heap.size ≤ w.heap.size := Nat.le_refl _; have hB : Below w.heap.size w w1 := t_.below (Below.refl _ _) (Nat.le_refl _); clear t_; (try simp only [Act.put, List.setIfInBounds_toArray, List.set_cons_zero, List.set_cons_succ]))
    | ((with_reducible refine at_allocD 4 34 ?_); refine L_alloc 34 (mc (zk) (0)) zeroM ?_; intro w2 t_ b_r; have o_m_r := b_m.lt; have l_hB_r : _ ≤ w1.heap.size := hB.size; replace b_m := t_.blk b_m (Nat.ne_of_lt b_m.lt); replace hB := t_.below hB l_hB_r; clear t_; (try simp only [Act.put, List.setIfInBounds_toArray, List.set_cons_zero, List.set_cons_succ]))
    | ((with_reducible refine at_loadD 6 23 ?_); refine L_give (by rfl) (g_ldK _ (w.heap.size) _ _ rfl (b_m) ?_); (try simp only [Act.put, List.setIfInBounds_toArray, List.set_cons_zero, List.set_cons_succ]))
    | ((with_reducible refine at_loadD 8 3 ?_); refine L_give (by rfl) (g_cell3 _ (w.heap.size) 32 _ rfl ((b_m).cell 32 _ (mc_at _ _)) ?_); (try simp only [Act.put, List.setIfInBounds_toArray, List.set_cons_zero, List.set_cons_succ]))
    | ((with_reducible refine at_binD 10 ?_); refine L_give (by rfl) (g_isub 3 _ _ .i64 _ _ d rfl rfl hd.out ?_); (try simp only [Act.put, List.setIfInBounds_toArray, List.set_cons_zero, List.set_cons_succ]))
    | ((with_reducible refine at_callD 11 ?_); refine L_give (by rfl) (g_call 31 _ _ [.agg (kc (k)).toArray, .int .i64 (d)] (kf31 _ _) rfl ((swalk_any k K d w2 (hT.on hB) hK).mono ?_)); rintro e w3 ⟨rfl, t_⟩; refine ⟨_, rfl, ?_⟩; replace b_m := b_m.below t_ b_m.lt; replace b_r := b_r.below t_ b_r.lt; replace hB := hB.trans (t_.mono hB.size); clear t_; (try simp only [Act.put, List.setIfInBounds_toArray, List.set_cons_zero, List.set_cons_succ]))
    | ((with_reducible refine at_bld 13 ?_); refine L_give (by rfl) (g_bldM _ _ (K) (i) rfl rfl ?_); (try simp only [Act.put, List.setIfInBounds_toArray, List.set_cons_zero, List.set_cons_succ]))
    | ((with_reducible refine at_storeX 4 34 ?_); refine L_store_all 34 _ _ (w1.heap.size) (mc (K) (i)) _ 34 rfl rfl b_r (szM _ _) (mm_len _ _ _ _) (one_mc _ _) ?_; clear b_r; intro w4 t_ b_r; replace b_m := t_.blk b_m (Nat.ne_of_lt o_m_r); replace hB := t_.below hB l_hB_r; clear t_))
  (try simp only [Exit.inBlock, Exit.then])
  exact bodyPost_ret (results_blk rfl _ (mc (K) (i)) _ rfl b_r fieldsM rfl (szM _ _)) rfl ⟨rfl, hB⟩
set_option maxRecDepth 10000 in
set_option maxHeartbeats 4000000 in
theorem tell_lo (k : Ky) (n i : Int) (w : World) (hT : Tabs w) (h1 : i < 0) : Calls Tryd.prog 18 #[.agg (mc k n).toArray, .int .i64 i] w fun e w' => e = .returned (.tuple #[.agg (kc zk).toArray, .int .i64 1]) ∧ Below w.heap.size w w' := by
  go_enter Tryd.func18, Tryd.ntmps18
  go_wp2_with (first
    | ((with_reducible refine at_boxD 2 34 ?_); refine L_box 34 _ (mc (k) (n)) rfl ?_; intro w1 t_ b_m; have l_hB_m : w.heap.size ≤ w.heap.size := Nat.le_refl _; have hB : Below w.heap.size w w1 := t_.below (Below.refl _ _) (Nat.le_refl _); clear t_; (try simp only [Act.put, List.setIfInBounds_toArray, List.set_cons_zero, List.set_cons_succ]))
    | ((with_reducible refine at_allocD 4 23 ?_); refine L_alloc 23 (kc (zk)) zeroK ?_; intro w2 t_ b_r; have o_m_r := b_m.lt; have l_hB_r : _ ≤ w1.heap.size := hB.size; replace b_m := t_.blk b_m (Nat.ne_of_lt b_m.lt); replace hB := t_.below hB l_hB_r; clear t_; (try simp only [Act.put, List.setIfInBounds_toArray, List.set_cons_zero, List.set_cons_succ]))
    | ((with_reducible refine at_binD 7 ?_); refine L_give (by rfl) (g_ilss 3 _ _ .i64 _ _ true rfl rfl (decide_eq_true h1) ?_); (try simp only [Act.put, List.setIfInBounds_toArray, List.set_cons_zero, List.set_cons_succ]))
    | ((with_reducible refine at_bld 14 ?_); refine L_give (by rfl) (g_bldK0 ?_); (try simp only [Act.put, List.setIfInBounds_toArray, List.set_cons_zero, List.set_cons_succ]))
    | ((with_reducible refine at_storeX 4 23 ?_); refine L_store_all 23 _ _ (w1.heap.size) (kc (zk)) _ 23 rfl rfl b_r (szK _) (kk_len _ _) (one_kc _) ?_; clear b_r; intro w3 t_ b_r; replace b_m := t_.blk b_m (Nat.ne_of_lt o_m_r); replace hB := t_.below hB l_hB_r; clear t_))
  (try simp only [Exit.inBlock, Exit.then])
  exact bodyPost_ret (results_blk_tmp rfl _ (kc (zk)) (.int .i64 (1)) _ rfl rfl b_r Tryd.underlying23 rfl (szK _)) rfl ⟨rfl, hB⟩
set_option maxRecDepth 10000 in
set_option maxHeartbeats 4000000 in
theorem tell_hi (k : Ky) (n i : Int) (w : World) (hT : Tabs w) (h1 : ¬ i < 0) (h2 : n < i) : Calls Tryd.prog 18 #[.agg (mc k n).toArray, .int .i64 i] w fun e w' => e = .returned (.tuple #[.agg (kc zk).toArray, .int .i64 1]) ∧ Below w.heap.size w w' := by
  go_enter Tryd.func18, Tryd.ntmps18
  go_wp2_with (first
    | ((with_reducible refine at_boxD 2 34 ?_); refine L_box 34 _ (mc (k) (n)) rfl ?_; intro w1 t_ b_m; have l_hB_m : w.heap.size ≤ w.heap.size := Nat.le_refl _; have hB : Below w.heap.size w w1 := t_.below (Below.refl _ _) (Nat.le_refl _); clear t_; (try simp only [Act.put, List.setIfInBounds_toArray, List.set_cons_zero, List.set_cons_succ]))
    | ((with_reducible refine at_allocD 4 23 ?_); refine L_alloc 23 (kc (zk)) zeroK ?_; intro w2 t_ b_r; have o_m_r := b_m.lt; have l_hB_r : _ ≤ w1.heap.size := hB.size; replace b_m := t_.blk b_m (Nat.ne_of_lt b_m.lt); replace hB := t_.below hB l_hB_r; clear t_; (try simp only [Act.put, List.setIfInBounds_toArray, List.set_cons_zero, List.set_cons_succ]))
    | ((with_reducible refine at_binD 7 ?_); refine L_give (by rfl) (g_ilss 3 _ _ .i64 _ _ false rfl rfl (decide_eq_false h1) ?_); (try simp only [Act.put, List.setIfInBounds_toArray, List.set_cons_zero, List.set_cons_succ]))
    | ((with_reducible refine at_loadD 11 3 ?_); refine L_give (by rfl) (g_cell3 _ (w.heap.size) 32 _ rfl ((b_m).cell 32 _ (mc_at _ _)) ?_); (try simp only [Act.put, List.setIfInBounds_toArray, List.set_cons_zero, List.set_cons_succ]))
    | ((with_reducible refine at_binD 12 ?_); refine L_give (by rfl) (g_igtr 3 _ _ .i64 _ _ true rfl rfl (decide_eq_true h2) ?_); (try simp only [Act.put, List.setIfInBounds_toArray, List.set_cons_zero, List.set_cons_succ]))
    | ((with_reducible refine at_bld 14 ?_); refine L_give (by rfl) (g_bldK0 ?_); (try simp only [Act.put, List.setIfInBounds_toArray, List.set_cons_zero, List.set_cons_succ]))
    | ((with_reducible refine at_storeX 4 23 ?_); refine L_store_all 23 _ _ (w1.heap.size) (kc (zk)) _ 23 rfl rfl b_r (szK _) (kk_len _ _) (one_kc _) ?_; clear b_r; intro w3 t_ b_r; replace b_m := t_.blk b_m (Nat.ne_of_lt o_m_r); replace hB := t_.below hB l_hB_r; clear t_))
  (try simp only [Exit.inBlock, Exit.then])
  exact bodyPost_ret (results_blk_tmp rfl _ (kc (zk)) (.int .i64 (1)) _ rfl rfl b_r Tryd.underlying23 rfl (szK _)) rfl ⟨rfl, hB⟩
set_option maxRecDepth 10000 in
set_option maxHeartbeats 4000000 in
theorem tell_ok (k : Ky) (n i : Int) (w : World) (hT : Tabs w) (K : Ky) (d : Int) (h1 : ¬ i < 0) (h2 : ¬ n < i) (hd : Shut (IntKind.i64.wrap (n - i) = d)) (hK : Shut (wl (min d 4096).toNat k = K)) : Calls Tryd.prog 18 #[.agg (mc k n).toArray, .int .i64 i] w fun e w' => e = .returned (.tuple #[.agg (kc K).toArray, .int .i64 0]) ∧ Below w.heap.size w w' := by
  go_enter Tryd.func18, Tryd.ntmps18
  go_wp2_with (first
    | ((with_reducible refine at_boxD 2 34 ?_); refine L_box 34 _ (mc (k) (n)) rfl ?_; intro w1 t_ b_m; have l_hB_m : w.heap.size ≤ w.heap.size := Nat.le_refl _; have hB : Below w.heap.size w w1 := t_.below (Below.refl _ _) (Nat.le_refl _); clear t_; (try simp only [Act.put, List.setIfInBounds_toArray, List.set_cons_zero, List.set_cons_succ]))
    | ((with_reducible refine at_allocD 4 23 ?_); refine L_alloc 23 (kc (zk)) zeroK ?_; intro w2 t_ b_r; have o_m_r := b_m.lt; have l_hB_r : _ ≤ w1.heap.size := hB.size; replace b_m := t_.blk b_m (Nat.ne_of_lt b_m.lt); replace hB := t_.below hB l_hB_r; clear t_; (try simp only [Act.put, List.setIfInBounds_toArray, List.set_cons_zero, List.set_cons_succ]))
    | ((with_reducible refine at_binD 7 ?_); refine L_give (by rfl) (g_ilss 3 _ _ .i64 _ _ false rfl rfl (decide_eq_false h1) ?_); (try simp only [Act.put, List.setIfInBounds_toArray, List.set_cons_zero, List.set_cons_succ]))
    | ((with_reducible refine at_loadD 11 3 ?_); refine L_give (by rfl) (g_cell3 _ (w.heap.size) 32 _ rfl ((b_m).cell 32 _ (mc_at _ _)) ?_); (try simp only [Act.put, List.setIfInBounds_toArray, List.set_cons_zero, List.set_cons_succ]))
    | ((with_reducible refine at_binD 12 ?_); refine L_give (by rfl) (g_igtr 3 _ _ .i64 _ _ false rfl rfl (decide_eq_false h2) ?_); (try simp only [Act.put, List.setIfInBounds_toArray, List.set_cons_zero, List.set_cons_succ]))
    | ((with_reducible refine at_loadD 15 34 ?_); refine L_give (by rfl) (g_load_all 34 _ (w.heap.size) (mc (k) (n)) 34 _ rfl (b_m) Tryd.underlying34 rfl (szM _ _) ?_); (try simp only [Act.put, List.setIfInBounds_toArray, List.set_cons_zero, List.set_cons_succ]))
    | ((with_reducible refine at_callD 17 ?_); refine L_give (by rfl) (g_call 25 _ _ [.agg (mc (k) (n)).toArray, .int .i64 (i)] (kf25 _ _) rfl ((back_any k K n i d w2 (hT.on hB) hd hK).mono ?_)); rintro e w3 ⟨rfl, t_⟩; refine ⟨_, rfl, ?_⟩; replace b_m := b_m.below t_ b_m.lt; replace b_r := b_r.below t_ b_r.lt; replace hB := hB.trans (t_.mono hB.size); clear t_; (try simp only [Act.put, List.setIfInBounds_toArray, List.set_cons_zero, List.set_cons_succ]))
    | ((with_reducible refine at_fldD 18 ?_); refine L_give (by rfl) (g_fldM _ (K) (i) rfl ?_); (try simp only [Act.put, List.setIfInBounds_toArray, List.set_cons_zero, List.set_cons_succ]))
    | ((with_reducible refine at_storeX 4 23 ?_); refine L_store_all 23 _ _ (w1.heap.size) (kc (K)) _ 23 rfl rfl b_r (szK _) (kk_len _ _) (one_kc _) ?_; clear b_r; intro w4 t_ b_r; replace b_m := t_.blk b_m (Nat.ne_of_lt o_m_r); replace hB := t_.below hB l_hB_r; clear t_))
  (try simp only [Exit.inBlock, Exit.then])
  exact bodyPost_ret (results_blk_tmp rfl _ (kc (K)) (.int .i64 (0)) _ rfl rfl b_r Tryd.underlying23 rfl (szK _)) rfl ⟨rfl, hB⟩
theorem wrap_sub (n i : Int) (h1 : ¬ i < 0) (h2 : ¬ n < i) (hn : n ≤ 9223372036854775807) : Shut (IntKind.i64.wrap (n - i) = n - i) := ⟨by rw [IntKind.wrap_i64]; omega⟩
theorem tell_any (k : Ky) (n i : Int) (w : World) (hT : Tabs w) (K : Ky) (E : Int) (hn : n ≤ 9223372036854775807) (h : Shut (tl k n i = (K, E))) : Calls Tryd.prog 18 #[.agg (mc k n).toArray, .int .i64 i] w fun e w' => e = .returned (.tuple #[.agg (kc K).toArray, .int .i64 E]) ∧ Below w.heap.size w w' := by
  have h := h.out
  unfold tl at h
  by_cases h1 : i < 0
  · rw [if_pos (.inl h1)] at h; cases h; exact tell_lo k n i w hT h1
  · by_cases h2 : n < i
    · rw [if_pos (.inr h2)] at h; cases h; exact tell_hi k n i w hT h1 h2
    · rw [if_neg (fun h3 => h3.elim h1 h2)] at h; cases h
      exact tell_ok k n i w hT _ _ h1 h2 (wrap_sub n i h1 h2 hn) ⟨rfl⟩
set_option maxRecDepth 10000 in
set_option maxHeartbeats 4000000 in
theorem rtell_lo (k : Ky) (n i : Int) (w : World) (h1 : i < 0) : Calls Tryd.prog 19 #[.agg (kc k).toArray, .int .i64 n, .int .i64 i] w fun e w' => e = .returned (.tuple #[.agg (kc zk).toArray, .int .i64 1]) ∧ Below w.heap.size w w' := by
  go_enter Tryd.func19, Tryd.ntmps19
  go_wp2_with (first
    | ((with_reducible refine at_boxD 3 23 ?_); refine L_box 23 _ (kc (k)) rfl ?_; intro w1 t_ b_k; have l_hB_k : w.heap.size ≤ w.heap.size := Nat.le_refl _; have hB : Below w.heap.size w w1 := t_.below (Below.refl _ _) (Nat.le_refl _); clear t_; (try simp only [Act.put, List.setIfInBounds_toArray, List.set_cons_zero, List.set_cons_succ]))
    | ((with_reducible refine at_allocD 6 23 ?_); refine L_alloc 23 (kc (zk)) zeroK ?_; intro w2 t_ b_r; have o_k_r := b_k.lt; have l_hB_r : _ ≤ w1.heap.size := hB.size; replace b_k := t_.blk b_k (Nat.ne_of_lt b_k.lt); replace hB := t_.below hB l_hB_r; clear t_; (try simp only [Act.put, List.setIfInBounds_toArray, List.set_cons_zero, List.set_cons_succ]))
    | ((with_reducible refine at_binD 9 ?_); refine L_give (by rfl) (g_ilss 3 _ _ .i64 _ _ true rfl rfl (decide_eq_true h1) ?_); (try simp only [Act.put, List.setIfInBounds_toArray, List.set_cons_zero, List.set_cons_succ]))
    | ((with_reducible refine at_bld 15 ?_); refine L_give (by rfl) (g_bldK0 ?_); (try simp only [Act.put, List.setIfInBounds_toArray, List.set_cons_zero, List.set_cons_succ]))
    | ((with_reducible refine at_storeX 6 23 ?_); refine L_store_all 23 _ _ (w1.heap.size) (kc (zk)) _ 23 rfl rfl b_r (szK _) (kk_len _ _) (one_kc _) ?_; clear b_r; intro w3 t_ b_r; replace b_k := t_.blk b_k (Nat.ne_of_lt o_k_r); replace hB := t_.below hB l_hB_r; clear t_))
  (try simp only [Exit.inBlock, Exit.then])
  exact bodyPost_ret (results_blk_tmp rfl _ (kc (zk)) (.int .i64 (1)) _ rfl rfl b_r Tryd.underlying23 rfl (szK _)) rfl ⟨rfl, hB⟩
set_option maxRecDepth 10000 in
set_option maxHeartbeats 4000000 in
theorem rtell_hi (k : Ky) (n i : Int) (w : World) (h1 : ¬ i < 0) (h2 : n < i) : Calls Tryd.prog 19 #[.agg (kc k).toArray, .int .i64 n, .int .i64 i] w fun e w' => e = .returned (.tuple #[.agg (kc zk).toArray, .int .i64 1]) ∧ Below w.heap.size w w' := by
  go_enter Tryd.func19, Tryd.ntmps19
  go_wp2_with (first
    | ((with_reducible refine at_boxD 3 23 ?_); refine L_box 23 _ (kc (k)) rfl ?_; intro w1 t_ b_k; have l_hB_k : w.heap.size ≤ w.heap.size := Nat.le_refl _; have hB : Below w.heap.size w w1 := t_.below (Below.refl _ _) (Nat.le_refl _); clear t_; (try simp only [Act.put, List.setIfInBounds_toArray, List.set_cons_zero, List.set_cons_succ]))
    | ((with_reducible refine at_allocD 6 23 ?_); refine L_alloc 23 (kc (zk)) zeroK ?_; intro w2 t_ b_r; have o_k_r := b_k.lt; have l_hB_r : _ ≤ w1.heap.size := hB.size; replace b_k := t_.blk b_k (Nat.ne_of_lt b_k.lt); replace hB := t_.below hB l_hB_r; clear t_; (try simp only [Act.put, List.setIfInBounds_toArray, List.set_cons_zero, List.set_cons_succ]))
    | ((with_reducible refine at_binD 9 ?_); refine L_give (by rfl) (g_ilss 3 _ _ .i64 _ _ false rfl rfl (decide_eq_false h1) ?_); (try simp only [Act.put, List.setIfInBounds_toArray, List.set_cons_zero, List.set_cons_succ]))
    | ((with_reducible refine at_binD 13 ?_); refine L_give (by rfl) (g_igtr 3 _ _ .i64 _ _ true rfl rfl (decide_eq_true h2) ?_); (try simp only [Act.put, List.setIfInBounds_toArray, List.set_cons_zero, List.set_cons_succ]))
    | ((with_reducible refine at_bld 15 ?_); refine L_give (by rfl) (g_bldK0 ?_); (try simp only [Act.put, List.setIfInBounds_toArray, List.set_cons_zero, List.set_cons_succ]))
    | ((with_reducible refine at_storeX 6 23 ?_); refine L_store_all 23 _ _ (w1.heap.size) (kc (zk)) _ 23 rfl rfl b_r (szK _) (kk_len _ _) (one_kc _) ?_; clear b_r; intro w3 t_ b_r; replace b_k := t_.blk b_k (Nat.ne_of_lt o_k_r); replace hB := t_.below hB l_hB_r; clear t_))
  (try simp only [Exit.inBlock, Exit.then])
  exact bodyPost_ret (results_blk_tmp rfl _ (kc (zk)) (.int .i64 (1)) _ rfl rfl b_r Tryd.underlying23 rfl (szK _)) rfl ⟨rfl, hB⟩
set_option maxRecDepth 10000 in
set_option maxHeartbeats 4000000 in
theorem rtell_ok (k : Ky) (n i : Int) (w : World) (K : Ky) (d : Int) (h1 : ¬ i < 0) (h2 : ¬ n < i) (hd : Shut (IntKind.i64.wrap (n - i) = d)) (hK : Shut (wl (min d 4096).toNat k = K)) : Calls Tryd.prog 19 #[.agg (kc k).toArray, .int .i64 n, .int .i64 i] w fun e w' => e = .returned (.tuple #[.agg (kc K).toArray, .int .i64 0]) ∧ Below w.heap.size w w' := by
  go_enter Tryd.func19, Tryd.ntmps19
  go_wp2_with (first
    | ((with_reducible refine at_boxD 3 23 ?_); refine L_box 23 _ (kc (k)) rfl ?_; intro w1 t_ b_k; have l_hB_k : w.heap.size ≤ w.heap.size := Nat.le_refl _; have hB : Below w.heap.size w w1 := t_.below (Below.refl _ _) (Nat.le_refl _); clear t_; (try simp only [Act.put, List.setIfInBounds_toArray, List.set_cons_zero, List.set_cons_succ]))
    | ((with_reducible refine at_allocD 6 23 ?_); refine L_alloc 23 (kc (zk)) zeroK ?_; intro w2 t_ b_r; have o_k_r := b_k.lt; have l_hB_r : _ ≤ w1.heap.size := hB.size; replace b_k := t_.blk b_k (Nat.ne_of_lt b_k.lt); replace hB := t_.below hB l_hB_r; clear t_; (try simp only [Act.put, List.setIfInBounds_toArray, List.set_cons_zero, List.set_cons_succ]))
    | ((with_reducible refine at_binD 9 ?_); refine L_give (by rfl) (g_ilss 3 _ _ .i64 _ _ false rfl rfl (decide_eq_false h1) ?_); (try simp only [Act.put, List.setIfInBounds_toArray, List.set_cons_zero, List.set_cons_succ]))
    | ((with_reducible refine at_binD 13 ?_); refine L_give (by rfl) (g_igtr 3 _ _ .i64 _ _ false rfl rfl (decide_eq_false h2) ?_); (try simp only [Act.put, List.setIfInBounds_toArray, List.set_cons_zero, List.set_cons_succ]))
    | ((with_reducible refine at_loadD 16 23 ?_); refine L_give (by rfl) (g_load_all 23 _ (w.heap.size) (kc (k)) 23 _ rfl (b_k) Tryd.underlying23 rfl (szK _) ?_); (try simp only [Act.put, List.setIfInBounds_toArray, List.set_cons_zero, List.set_cons_succ]))
    | ((with_reducible refine at_binD 19 ?_); refine L_give (by rfl) (g_isub 3 _ _ .i64 _ _ d rfl rfl hd.out ?_); (try simp only [Act.put, List.setIfInBounds_toArray, List.set_cons_zero, List.set_cons_succ]))
    | ((with_reducible refine at_callD 20 ?_); refine L_give (by rfl) (g_call 22 _ _ [.agg (kc (k)).toArray, .int .i64 (d)] (kf22 _ _) rfl ((rwalk_any k K d w2 hK).mono ?_)); rintro e w3 ⟨rfl, t_⟩; refine ⟨_, rfl, ?_⟩; replace b_k := b_k.below t_ b_k.lt; replace b_r := b_r.below t_ b_r.lt; replace hB := hB.trans (t_.mono hB.size); clear t_; (try simp only [Act.put, List.setIfInBounds_toArray, List.set_cons_zero, List.set_cons_succ]))
    | ((with_reducible refine at_storeX 6 23 ?_); refine L_store_all 23 _ _ (w1.heap.size) (kc (K)) _ 23 rfl rfl b_r (szK _) (kk_len _ _) (one_kc _) ?_; clear b_r; intro w4 t_ b_r; replace b_k := t_.blk b_k (Nat.ne_of_lt o_k_r); replace hB := t_.below hB l_hB_r; clear t_))
  (try simp only [Exit.inBlock, Exit.then])
  exact bodyPost_ret (results_blk_tmp rfl _ (kc (K)) (.int .i64 (0)) _ rfl rfl b_r Tryd.underlying23 rfl (szK _)) rfl ⟨rfl, hB⟩
theorem rtell_any (k : Ky) (n i : Int) (w : World) (K : Ky) (E : Int) (hn : n ≤ 9223372036854775807) (h : Shut (tl k n i = (K, E))) : Calls Tryd.prog 19 #[.agg (kc k).toArray, .int .i64 n, .int .i64 i] w fun e w' => e = .returned (.tuple #[.agg (kc K).toArray, .int .i64 E]) ∧ Below w.heap.size w w' := by
  have h := h.out
  unfold tl at h
  by_cases h1 : i < 0
  · rw [if_pos (.inl h1)] at h; cases h; exact rtell_lo k n i w h1
  · by_cases h2 : n < i
    · rw [if_pos (.inr h2)] at h; cases h; exact rtell_hi k n i w h1 h2
    · rw [if_neg (fun h3 => h3.elim h1 h2)] at h; cases h
      exact rtell_ok k n i w _ _ h1 h2 (wrap_sub n i h1 h2 hn) ⟨rfl⟩
set_option maxRecDepth 10000 in
set_option maxHeartbeats 4000000 in
theorem tagger_any (k K : Ky) (w : World) (hT : Tabs w) (hK : Shut (tg k ⟨#[116, 97, 103]⟩ = K)) : Calls Tryd.prog 13 #[.agg (kc k).toArray] w fun e w' => e = .returned (.agg (kc K).toArray) ∧ Below w.heap.size w w' := by
  go_enter Tryd.func13, Tryd.ntmps13
  go_wp2_with (first
    | ((with_reducible refine at_boxD 1 23 ?_); refine L_box 23 _ (kc (k)) rfl ?_; intro w1 t_ b_k; have l_hB_k : w.heap.size ≤ w.heap.size := Nat.le_refl _; have hB : Below w.heap.size w w1 := t_.below (Below.refl _ _) (Nat.le_refl _); clear t_; (try simp only [Act.put, List.setIfInBounds_toArray, List.set_cons_zero, List.set_cons_succ]))
    | ((with_reducible refine at_allocD 2 23 ?_); refine L_alloc 23 (kc (zk)) zeroK ?_; intro w2 t_ b_r; have o_k_r := b_k.lt; have l_hB_r : _ ≤ w1.heap.size := hB.size; replace b_k := t_.blk b_k (Nat.ne_of_lt b_k.lt); replace hB := t_.below hB l_hB_r; clear t_; (try simp only [Act.put, List.setIfInBounds_toArray, List.set_cons_zero, List.set_cons_succ]))
    | ((with_reducible refine at_loadD 3 23 ?_); refine L_give (by rfl) (g_load_all 23 _ (w.heap.size) (kc (k)) 23 _ rfl (b_k) Tryd.underlying23 rfl (szK _) ?_); (try simp only [Act.put, List.setIfInBounds_toArray, List.set_cons_zero, List.set_cons_succ]))
    | ((with_reducible refine at_callD 4 ?_); refine L_give (by rfl) (g_call 23 _ _ [.agg (kc (k)).toArray, .string (⟨#[116, 97, 103]⟩)] (kf23 _ _) rfl ((mof_any k K ⟨#[116, 97, 103]⟩ w2 (hT.on hB) (by decide) hK).mono ?_)); rintro e w3 ⟨rfl, t_⟩; refine ⟨_, rfl, ?_⟩; replace b_k := b_k.below t_ b_k.lt; replace b_r := b_r.below t_ b_r.lt; replace hB := hB.trans (t_.mono hB.size); clear t_; (try simp only [Act.put, List.setIfInBounds_toArray, List.set_cons_zero, List.set_cons_succ]))
    | ((with_reducible refine at_storeX 2 23 ?_); refine L_store_all 23 _ _ (w1.heap.size) (kc (K)) _ 23 rfl rfl b_r (szK _) (kk_len _ _) (one_kc _) ?_; clear b_r; intro w4 t_ b_r; replace b_k := t_.blk b_k (Nat.ne_of_lt o_k_r); replace hB := t_.below hB l_hB_r; clear t_))
  (try simp only [Exit.inBlock, Exit.then])
  exact bodyPost_ret (results_blk rfl _ (kc (K)) _ rfl b_r Tryd.underlying23 rfl (szK _)) rfl ⟨rfl, hB⟩
set_option maxRecDepth 10000 in
set_option maxHeartbeats 4000000 in
theorem next_any (k K : Ky) (w : World) (hT : Tabs w) (hK : Shut (tg k ⟨#[115, 101, 101, 100]⟩ = K)) : Calls Tryd.prog 15 #[.agg (kc k).toArray] w fun e w' => e = .returned (.agg (kc K).toArray) ∧ Below w.heap.size w w' := by
  go_enter Tryd.func15, Tryd.ntmps15
  go_wp2_with (first
    | ((with_reducible refine at_boxD 1 23 ?_); refine L_box 23 _ (kc (k)) rfl ?_; intro w1 t_ b_k; have l_hB_k : w.heap.size ≤ w.heap.size := Nat.le_refl _; have hB : Below w.heap.size w w1 := t_.below (Below.refl _ _) (Nat.le_refl _); clear t_; (try simp only [Act.put, List.setIfInBounds_toArray, List.set_cons_zero, List.set_cons_succ]))
    | ((with_reducible refine at_allocD 2 23 ?_); refine L_alloc 23 (kc (zk)) zeroK ?_; intro w2 t_ b_r; have o_k_r := b_k.lt; have l_hB_r : _ ≤ w1.heap.size := hB.size; replace b_k := t_.blk b_k (Nat.ne_of_lt b_k.lt); replace hB := t_.below hB l_hB_r; clear t_; (try simp only [Act.put, List.setIfInBounds_toArray, List.set_cons_zero, List.set_cons_succ]))
    | ((with_reducible refine at_loadD 3 23 ?_); refine L_give (by rfl) (g_load_all 23 _ (w.heap.size) (kc (k)) 23 _ rfl (b_k) Tryd.underlying23 rfl (szK _) ?_); (try simp only [Act.put, List.setIfInBounds_toArray, List.set_cons_zero, List.set_cons_succ]))
    | ((with_reducible refine at_callD 4 ?_); refine L_give (by rfl) (g_call 23 _ _ [.agg (kc (k)).toArray, .string (⟨#[115, 101, 101, 100]⟩)] (kf23 _ _) rfl ((mof_any k K ⟨#[115, 101, 101, 100]⟩ w2 (hT.on hB) (by decide) hK).mono ?_)); rintro e w3 ⟨rfl, t_⟩; refine ⟨_, rfl, ?_⟩; replace b_k := b_k.below t_ b_k.lt; replace b_r := b_r.below t_ b_r.lt; replace hB := hB.trans (t_.mono hB.size); clear t_; (try simp only [Act.put, List.setIfInBounds_toArray, List.set_cons_zero, List.set_cons_succ]))
    | ((with_reducible refine at_storeX 2 23 ?_); refine L_store_all 23 _ _ (w1.heap.size) (kc (K)) _ 23 rfl rfl b_r (szK _) (kk_len _ _) (one_kc _) ?_; clear b_r; intro w4 t_ b_r; replace b_k := t_.blk b_k (Nat.ne_of_lt o_k_r); replace hB := t_.below hB l_hB_r; clear t_))
  (try simp only [Exit.inBlock, Exit.then])
  exact bodyPost_ret (results_blk rfl _ (kc (K)) _ rfl b_r Tryd.underlying23 rfl (szK _)) rfl ⟨rfl, hB⟩
set_option maxRecDepth 10000 in
set_option maxHeartbeats 4000000 in
theorem key_lo (s : Ky) (n i : Int) (w : World) (hT : Tabs w) (h1 : n < 1) : Calls Tryd.prog 10 #[.agg (kc s).toArray, .int .i64 n, .int .i64 i] w fun e w' => e = .returned (.tuple #[.agg (kc zk).toArray, .int .i64 1]) ∧ Below w.heap.size w w' := by
  go_enter Tryd.func10, Tryd.ntmps10
  go_wp2_with (first
    | ((with_reducible refine at_boxD 3 23 ?_); refine L_box 23 _ (kc (s)) rfl ?_; intro w1 t_ b_k; have l_hB_k : w.heap.size ≤ w.heap.size := Nat.le_refl _; have hB : Below w.heap.size w w1 := t_.below (Below.refl _ _) (Nat.le_refl _); clear t_; (try simp only [Act.put, List.setIfInBounds_toArray, List.set_cons_zero, List.set_cons_succ]))
    | ((with_reducible refine at_allocD 6 23 ?_); refine L_alloc 23 (kc (zk)) zeroK ?_; intro w2 t_ b_r; have o_k_r := b_k.lt; have l_hB_r : _ ≤ w1.heap.size := hB.size; replace b_k := t_.blk b_k (Nat.ne_of_lt b_k.lt); replace hB := t_.below hB l_hB_r; clear t_; (try simp only [Act.put, List.setIfInBounds_toArray, List.set_cons_zero, List.set_cons_succ]))
    | ((with_reducible refine at_binD 9 ?_); refine L_give (by rfl) (g_ilss 3 _ _ .i64 _ _ true rfl rfl (decide_eq_true h1) ?_); (try simp only [Act.put, List.setIfInBounds_toArray, List.set_cons_zero, List.set_cons_succ]))
    | ((with_reducible refine at_bld 14 ?_); refine L_give (by rfl) (g_bldK0 ?_); (try simp only [Act.put, List.setIfInBounds_toArray, List.set_cons_zero, List.set_cons_succ]))
    | ((with_reducible refine at_storeX 6 23 ?_); refine L_store_all 23 _ _ (w1.heap.size) (kc (zk)) _ 23 rfl rfl b_r (szK _) (kk_len _ _) (one_kc _) ?_; clear b_r; intro w3 t_ b_r; replace b_k := t_.blk b_k (Nat.ne_of_lt o_k_r); replace hB := t_.below hB l_hB_r; clear t_))
  (try simp only [Exit.inBlock, Exit.then])
  exact bodyPost_ret (results_blk_tmp rfl _ (kc (zk)) (.int .i64 (1)) _ rfl rfl b_r Tryd.underlying23 rfl (szK _)) rfl ⟨rfl, hB⟩
set_option maxRecDepth 10000 in
set_option maxHeartbeats 4000000 in
theorem key_hi (s : Ky) (n i : Int) (w : World) (hT : Tabs w) (h1 : ¬ n < 1) (h2 : 1024 < n) : Calls Tryd.prog 10 #[.agg (kc s).toArray, .int .i64 n, .int .i64 i] w fun e w' => e = .returned (.tuple #[.agg (kc zk).toArray, .int .i64 1]) ∧ Below w.heap.size w w' := by
  go_enter Tryd.func10, Tryd.ntmps10
  go_wp2_with (first
    | ((with_reducible refine at_boxD 3 23 ?_); refine L_box 23 _ (kc (s)) rfl ?_; intro w1 t_ b_k; have l_hB_k : w.heap.size ≤ w.heap.size := Nat.le_refl _; have hB : Below w.heap.size w w1 := t_.below (Below.refl _ _) (Nat.le_refl _); clear t_; (try simp only [Act.put, List.setIfInBounds_toArray, List.set_cons_zero, List.set_cons_succ]))
    | ((with_reducible refine at_allocD 6 23 ?_); refine L_alloc 23 (kc (zk)) zeroK ?_; intro w2 t_ b_r; have o_k_r := b_k.lt; have l_hB_r : _ ≤ w1.heap.size := hB.size; replace b_k := t_.blk b_k (Nat.ne_of_lt b_k.lt); replace hB := t_.below hB l_hB_r; clear t_; (try simp only [Act.put, List.setIfInBounds_toArray, List.set_cons_zero, List.set_cons_succ]))
    | ((with_reducible refine at_binD 9 ?_); refine L_give (by rfl) (g_ilss 3 _ _ .i64 _ _ false rfl rfl (decide_eq_false h1) ?_); (try simp only [Act.put, List.setIfInBounds_toArray, List.set_cons_zero, List.set_cons_succ]))
    | ((with_reducible refine at_binD 12 ?_); refine L_give (by rfl) (g_igtr 3 _ _ .i64 _ _ true rfl rfl (decide_eq_true h2) ?_); (try simp only [Act.put, List.setIfInBounds_toArray, List.set_cons_zero, List.set_cons_succ]))
    | ((with_reducible refine at_bld 14 ?_); refine L_give (by rfl) (g_bldK0 ?_); (try simp only [Act.put, List.setIfInBounds_toArray, List.set_cons_zero, List.set_cons_succ]))
    | ((with_reducible refine at_storeX 6 23 ?_); refine L_store_all 23 _ _ (w1.heap.size) (kc (zk)) _ 23 rfl rfl b_r (szK _) (kk_len _ _) (one_kc _) ?_; clear b_r; intro w3 t_ b_r; replace b_k := t_.blk b_k (Nat.ne_of_lt o_k_r); replace hB := t_.below hB l_hB_r; clear t_))
  (try simp only [Exit.inBlock, Exit.then])
  exact bodyPost_ret (results_blk_tmp rfl _ (kc (zk)) (.int .i64 (1)) _ rfl rfl b_r Tryd.underlying23 rfl (szK _)) rfl ⟨rfl, hB⟩
set_option maxRecDepth 10000 in
set_option maxHeartbeats 4000000 in
theorem key_ok (s : Ky) (n i : Int) (w : World) (hT : Tabs w) (L K : Ky) (E : Int) (h1 : ¬ n < 1) (h2 : ¬ 1024 < n) (hn : n ≤ 9223372036854775807) (hL : Shut (tg s ⟨#[99, 104, 97, 105, 110]⟩ = L)) (hK : Shut (tl L n i = (K, E))) : Calls Tryd.prog 10 #[.agg (kc s).toArray, .int .i64 n, .int .i64 i] w fun e w' => e = .returned (.tuple #[.agg (kc K).toArray, .int .i64 E]) ∧ Below w.heap.size w w' := by
  go_enter Tryd.func10, Tryd.ntmps10
  go_wp2_with (first
    | ((with_reducible refine at_boxD 3 23 ?_); refine L_box 23 _ (kc (s)) rfl ?_; intro w1 t_ b_k; have l_hB_k : w.heap.size ≤ w.heap.size := Nat.le_refl _; have hB : Below w.heap.size w w1 := t_.below (Below.refl _ _) (Nat.le_refl _); clear t_; (try simp only [Act.put, List.setIfInBounds_toArray, List.set_cons_zero, List.set_cons_succ]))
    | ((with_reducible refine at_allocD 6 23 ?_); refine L_alloc 23 (kc (zk)) zeroK ?_; intro w2 t_ b_r; have o_k_r := b_k.lt; have l_hB_r : _ ≤ w1.heap.size := hB.size; replace b_k := t_.blk b_k (Nat.ne_of_lt b_k.lt); replace hB := t_.below hB l_hB_r; clear t_; (try simp only [Act.put, List.setIfInBounds_toArray, List.set_cons_zero, List.set_cons_succ]))
    | ((with_reducible refine at_binD 9 ?_); refine L_give (by rfl) (g_ilss 3 _ _ .i64 _ _ false rfl rfl (decide_eq_false h1) ?_); (try simp only [Act.put, List.setIfInBounds_toArray, List.set_cons_zero, List.set_cons_succ]))
    | ((with_reducible refine at_binD 12 ?_); refine L_give (by rfl) (g_igtr 3 _ _ .i64 _ _ false rfl rfl (decide_eq_false h2) ?_); (try simp only [Act.put, List.setIfInBounds_toArray, List.set_cons_zero, List.set_cons_succ]))
    | ((with_reducible refine at_loadD 15 23 ?_); refine L_give (by rfl) (g_load_all 23 _ (w.heap.size) (kc (s)) 23 _ rfl (b_k) Tryd.underlying23 rfl (szK _) ?_); (try simp only [Act.put, List.setIfInBounds_toArray, List.set_cons_zero, List.set_cons_succ]))
    | ((with_reducible refine at_callD 16 ?_); refine L_give (by rfl) (g_call 23 _ _ [.agg (kc (s)).toArray, .string (⟨#[99, 104, 97, 105, 110]⟩)] (kf23 _ _) rfl ((mof_any s L ⟨#[99, 104, 97, 105, 110]⟩ w2 (hT.on hB) (by decide) hL).mono ?_)); rintro e w3 ⟨rfl, t_⟩; refine ⟨_, rfl, ?_⟩; replace b_k := b_k.below t_ b_k.lt; replace b_r := b_r.below t_ b_r.lt; replace hB := hB.trans (t_.mono hB.size); clear t_; (try simp only [Act.put, List.setIfInBounds_toArray, List.set_cons_zero, List.set_cons_succ]))
    | ((with_reducible refine at_bld 18 ?_); refine L_give (by rfl) (g_bldM _ _ (L) (n) rfl rfl ?_); (try simp only [Act.put, List.setIfInBounds_toArray, List.set_cons_zero, List.set_cons_succ]))
    | ((with_reducible refine at_callD 20 ?_); refine L_give (by rfl) (g_call 18 _ _ [.agg (mc (L) (n)).toArray, .int .i64 (i)] (kf18 _ _) rfl ((tell_any L n i w3 (hT.on hB) K E hn hK).mono ?_)); rintro e w4 ⟨rfl, t_⟩; refine ⟨_, rfl, ?_⟩; replace b_k := b_k.below t_ b_k.lt; replace b_r := b_r.below t_ b_r.lt; replace hB := hB.trans (t_.mono hB.size); clear t_; (try simp only [Act.put, List.setIfInBounds_toArray, List.set_cons_zero, List.set_cons_succ]))
    | ((with_reducible refine at_storeX 6 23 ?_); refine L_store_all 23 _ _ (w1.heap.size) (kc (K)) _ 23 rfl rfl b_r (szK _) (kk_len _ _) (one_kc _) ?_; clear b_r; intro w5 t_ b_r; replace b_k := t_.blk b_k (Nat.ne_of_lt o_k_r); replace hB := t_.below hB l_hB_r; clear t_))
  (try simp only [Exit.inBlock, Exit.then])
  exact bodyPost_ret (results_blk_tmp rfl _ (kc (K)) (.int .i64 (E)) _ rfl rfl b_r Tryd.underlying23 rfl (szK _)) rfl ⟨rfl, hB⟩
theorem ckey_any (s : Ky) (n i : Int) (w : World) (hT : Tabs w) (K : Ky) (E : Int) (h : Shut (ky s n i = (K, E))) : Calls Tryd.prog 10 #[.agg (kc s).toArray, .int .i64 n, .int .i64 i] w fun e w' => e = .returned (.tuple #[.agg (kc K).toArray, .int .i64 E]) ∧ Below w.heap.size w w' := by
  have h := h.out
  unfold ky at h
  by_cases h1 : n < 1
  · rw [if_pos (.inl h1)] at h; cases h; exact key_lo s n i w hT h1
  · by_cases h2 : 1024 < n
    · rw [if_pos (.inr h2)] at h; cases h; exact key_hi s n i w hT h1 h2
    · rw [if_neg (fun h3 => h3.elim h1 h2)] at h
      exact key_ok s n i w hT _ K E h1 h2 (by omega) ⟨rfl⟩ ⟨h⟩
set_option maxRecDepth 10000 in
set_option maxHeartbeats 4000000 in
theorem known_any (s : Ky) (n : Int) (w : World) (hT : Tabs w) (K : Ky) (E : Int) (h : Shut (ky s n 0 = (K, E))) : Calls Tryd.prog 12 #[.agg (kc s).toArray, .int .i64 n] w fun e w' => e = .returned (.tuple #[.agg (kc K).toArray, .int .i64 E]) ∧ Below w.heap.size w w' := by
  go_enter Tryd.func12, Tryd.ntmps12
  go_wp2_with (first
    | ((with_reducible refine at_boxD 2 23 ?_); refine L_box 23 _ (kc (s)) rfl ?_; intro w1 t_ b_k; have l_hB_k : w.heap.size ≤ w.heap.size := Nat.le_refl _; have hB : Below w.heap.size w w1 := t_.below (Below.refl _ _) (Nat.le_refl _); clear t_; (try simp only [Act.put, List.setIfInBounds_toArray, List.set_cons_zero, List.set_cons_succ]))
    | ((with_reducible refine at_allocD 4 23 ?_); refine L_alloc 23 (kc (zk)) zeroK ?_; intro w2 t_ b_r; have o_k_r := b_k.lt; have l_hB_r : _ ≤ w1.heap.size := hB.size; replace b_k := t_.blk b_k (Nat.ne_of_lt b_k.lt); replace hB := t_.below hB l_hB_r; clear t_; (try simp only [Act.put, List.setIfInBounds_toArray, List.set_cons_zero, List.set_cons_succ]))
    | ((with_reducible refine at_loadD 6 23 ?_); refine L_give (by rfl) (g_load_all 23 _ (w.heap.size) (kc (s)) 23 _ rfl (b_k) Tryd.underlying23 rfl (szK _) ?_); (try simp only [Act.put, List.setIfInBounds_toArray, List.set_cons_zero, List.set_cons_succ]))
    | ((with_reducible refine at_callD 8 ?_); refine L_give (by rfl) (g_call 10 _ _ [.agg (kc (s)).toArray, .int .i64 (n), .int .i64 (0)] (kf10 _ _) rfl ((ckey_any s n 0 w2 (hT.on hB) K E h).mono ?_)); rintro e w3 ⟨rfl, t_⟩; refine ⟨_, rfl, ?_⟩; replace b_k := b_k.below t_ b_k.lt; replace b_r := b_r.below t_ b_r.lt; replace hB := hB.trans (t_.mono hB.size); clear t_; (try simp only [Act.put, List.setIfInBounds_toArray, List.set_cons_zero, List.set_cons_succ]))
    | ((with_reducible refine at_storeX 4 23 ?_); refine L_store_all 23 _ _ (w1.heap.size) (kc (K)) _ 23 rfl rfl b_r (szK _) (kk_len _ _) (one_kc _) ?_; clear b_r; intro w4 t_ b_r; replace b_k := t_.blk b_k (Nat.ne_of_lt o_k_r); replace hB := t_.below hB l_hB_r; clear t_))
  (try simp only [Exit.inBlock, Exit.then])
  exact bodyPost_ret (results_blk_tmp rfl _ (kc (K)) (.int .i64 (E)) _ rfl rfl b_r Tryd.underlying23 rfl (szK _)) rfl ⟨rfl, hB⟩
end Go.Proofs.YtcenaklbfdhimaaDoor
