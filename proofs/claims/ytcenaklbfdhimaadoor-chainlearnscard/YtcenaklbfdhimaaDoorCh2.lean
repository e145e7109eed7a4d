/- What the program's chain.Check and (chain.Mind).Learn answer, and the reference's Key and Check; nothing that was there is changed. -/
import Derived.Test.YtcenaklbfdhimaaDoorCh1
import Derived.WalkKit
import Derived.WalkSpells
import Derived.WalkLawsBesides
namespace Go.Proofs.YtcenaklbfdhimaaDoor
open Go Go.RowKit
set_option linter.unusedVariables false
set_option linter.unusedSimpArgs false

set_option maxRecDepth 10000 in
set_option maxHeartbeats 4000000 in
theorem check_1 (k0 : Ky) (p : Int) (k : Ky) (i f : Int) (w : World) (hT : Tabs w) (h1 : p < 0) : Calls Tryd.prog 16 #[.agg (kc k0).toArray, .int .i64 p, .agg (kc k).toArray, .int .i64 i, .int .i64 f] w fun e w' => e = .returned (.int .i64 1) ∧ Below w.heap.size w w' := by
  go_enter Tryd.func16, Tryd.ntmps16
  go_wp2_with (first
    | ((with_reducible refine at_boxD 5 23 ?_); refine L_box 23 _ (kc (k0)) rfl ?_; intro w1 t_ b_a; have l_hB_a : w.heap.size ≤ w.heap.size := Nat.le_refl _; have hB : Below w.heap.size w w1 := t_.below (Below.refl _ _) (Nat.le_refl _); clear t_; (try simp only [Act.put, List.setIfInBounds_toArray, List.set_cons_zero, List.set_cons_succ]))
    | ((with_reducible refine at_boxD 7 23 ?_); refine L_box 23 _ (kc (k)) rfl ?_; intro w2 t_ b_b; have o_a_b := b_a.lt; have l_hB_b : _ ≤ w1.heap.size := hB.size; replace b_a := t_.blk b_a (Nat.ne_of_lt b_a.lt); replace hB := t_.below hB l_hB_b; clear t_; (try simp only [Act.put, List.setIfInBounds_toArray, List.set_cons_zero, List.set_cons_succ]))
    | ((with_reducible refine at_binD 12 ?_); refine L_give (by rfl) (g_ilss 3 _ _ .i64 _ _ true rfl rfl (decide_eq_true h1) ?_); (try simp only [Act.put, List.setIfInBounds_toArray, List.set_cons_zero, List.set_cons_succ])))
  go_ret
  exact ⟨rfl, hB⟩
set_option maxRecDepth 10000 in
set_option maxHeartbeats 4000000 in
theorem check_2 (k0 : Ky) (p : Int) (k : Ky) (i f : Int) (w : World) (hT : Tabs w) (h1 : ¬ p < 0) (h2 : i ≤ p) : Calls Tryd.prog 16 #[.agg (kc k0).toArray, .int .i64 p, .agg (kc k).toArray, .int .i64 i, .int .i64 f] w fun e w' => e = .returned (.int .i64 1) ∧ Below w.heap.size w w' := by
  go_enter Tryd.func16, Tryd.ntmps16
  go_wp2_with (first
    | ((with_reducible refine at_boxD 5 23 ?_); refine L_box 23 _ (kc (k0)) rfl ?_; intro w1 t_ b_a; have l_hB_a : w.heap.size ≤ w.heap.size := Nat.le_refl _; have hB : Below w.heap.size w w1 := t_.below (Below.refl _ _) (Nat.le_refl _); clear t_; (try simp only [Act.put, List.setIfInBounds_toArray, List.set_cons_zero, List.set_cons_succ]))
    | ((with_reducible refine at_boxD 7 23 ?_); refine L_box 23 _ (kc (k)) rfl ?_; intro w2 t_ b_b; have o_a_b := b_a.lt; have l_hB_b : _ ≤ w1.heap.size := hB.size; replace b_a := t_.blk b_a (Nat.ne_of_lt b_a.lt); replace hB := t_.below hB l_hB_b; clear t_; (try simp only [Act.put, List.setIfInBounds_toArray, List.set_cons_zero, List.set_cons_succ]))
    | ((with_reducible refine at_binD 12 ?_); refine L_give (by rfl) (g_ilss 3 _ _ .i64 _ _ false rfl rfl (decide_eq_false h1) ?_); (try simp only [Act.put, List.setIfInBounds_toArray, List.set_cons_zero, List.set_cons_succ]))
    | ((with_reducible refine at_binD 16 ?_); refine L_give (by rfl) (g_ileq 3 _ _ .i64 _ _ true rfl rfl (decide_eq_true h2) ?_); (try simp only [Act.put, List.setIfInBounds_toArray, List.set_cons_zero, List.set_cons_succ])))
  go_ret
  exact ⟨rfl, hB⟩
set_option maxRecDepth 10000 in
set_option maxHeartbeats 4000000 in
theorem check_3 (k0 : Ky) (p : Int) (k : Ky) (i f : Int) (w : World) (hT : Tabs w) (d m : Int) (h1 : ¬ p < 0) (h2 : ¬ i ≤ p) (hd : Shut (IntKind.i64.wrap (i - p) = d)) (hm : Shut (min f 1024 = m)) (h3 : m < d) : Calls Tryd.prog 16 #[.agg (kc k0).toArray, .int .i64 p, .agg (kc k).toArray, .int .i64 i, .int .i64 f] w fun e w' => e = .returned (.int .i64 16) ∧ Below w.heap.size w w' := by
  go_enter Tryd.func16, Tryd.ntmps16
  go_wp2_with (first
    | ((with_reducible refine at_boxD 5 23 ?_); refine L_box 23 _ (kc (k0)) rfl ?_; intro w1 t_ b_a; have l_hB_a : w.heap.size ≤ w.heap.size := Nat.le_refl _; have hB : Below w.heap.size w w1 := t_.below (Below.refl _ _) (Nat.le_refl _); clear t_; (try simp only [Act.put, List.setIfInBounds_toArray, List.set_cons_zero, List.set_cons_succ]))
    | ((with_reducible refine at_boxD 7 23 ?_); refine L_box 23 _ (kc (k)) rfl ?_; intro w2 t_ b_b; have o_a_b := b_a.lt; have l_hB_b : _ ≤ w1.heap.size := hB.size; replace b_a := t_.blk b_a (Nat.ne_of_lt b_a.lt); replace hB := t_.below hB l_hB_b; clear t_; (try simp only [Act.put, List.setIfInBounds_toArray, List.set_cons_zero, List.set_cons_succ]))
    | ((with_reducible refine at_binD 12 ?_); refine L_give (by rfl) (g_ilss 3 _ _ .i64 _ _ false rfl rfl (decide_eq_false h1) ?_); (try simp only [Act.put, List.setIfInBounds_toArray, List.set_cons_zero, List.set_cons_succ]))
    | ((with_reducible refine at_binD 16 ?_); refine L_give (by rfl) (g_ileq 3 _ _ .i64 _ _ false rfl rfl (decide_eq_false h2) ?_); (try simp only [Act.put, List.setIfInBounds_toArray, List.set_cons_zero, List.set_cons_succ]))
    | ((with_reducible refine at_binD 20 ?_); refine L_give (by rfl) (g_isub 3 _ _ .i64 _ _ d rfl rfl hd.out ?_); (try simp only [Act.put, List.setIfInBounds_toArray, List.set_cons_zero, List.set_cons_succ]))
    | ((with_reducible refine at_callD 22 ?_); refine L_give (by rfl) (g_min _ _ _ _ m rfl rfl hm.out ?_); (try simp only [Act.put, List.setIfInBounds_toArray, List.set_cons_zero, List.set_cons_succ]))
    | ((with_reducible refine at_binD 23 ?_); refine L_give (by rfl) (g_igtr 3 _ _ .i64 _ _ true rfl rfl (decide_eq_true h3) ?_); (try simp only [Act.put, List.setIfInBounds_toArray, List.set_cons_zero, List.set_cons_succ])))
  go_ret
  exact ⟨rfl, hB⟩
set_option maxRecDepth 10000 in
set_option maxHeartbeats 4000000 in
theorem check_4 (k0 : Ky) (p : Int) (k : Ky) (i f : Int) (w : World) (hT : Tabs w) (K : Ky) (d m : Int) (h1 : ¬ p < 0) (h2 : ¬ i ≤ p) (hd : Shut (IntKind.i64.wrap (i - p) = d)) (hm : Shut (min f 1024 = m)) (h3 : ¬ m < d) (hK : Shut (wl (min d 4096).toNat k = K)) (h4 : Shut ((K.l = k0.l))) : Calls Tryd.prog 16 #[.agg (kc k0).toArray, .int .i64 p, .agg (kc k).toArray, .int .i64 i, .int .i64 f] w fun e w' => e = .returned (.int .i64 0) ∧ Below w.heap.size w w' := by
  go_enter Tryd.func16, Tryd.ntmps16
  go_wp2_with (first
    | ((with_reducible refine at_boxD 5 23 ?_); refine L_box 23 _ (kc (k0)) rfl ?_; intro w1 t_ b_a; have l_hB_a : w.heap.size ≤ w.heap.size := Nat.le_refl _; have hB : Below w.heap.size w w1 := t_.below (Below.refl _ _) (Nat.le_refl _); clear t_; (try simp only [Act.put, List.setIfInBounds_toArray, List.set_cons_zero, List.set_cons_succ]))
    | ((with_reducible refine at_boxD 7 23 ?_); refine L_box 23 _ (kc (k)) rfl ?_; intro w2 t_ b_b; have o_a_b := b_a.lt; have l_hB_b : _ ≤ w1.heap.size := hB.size; replace b_a := t_.blk b_a (Nat.ne_of_lt b_a.lt); replace hB := t_.below hB l_hB_b; clear t_; (try simp only [Act.put, List.setIfInBounds_toArray, List.set_cons_zero, List.set_cons_succ]))
    | ((with_reducible refine at_binD 12 ?_); refine L_give (by rfl) (g_ilss 3 _ _ .i64 _ _ false rfl rfl (decide_eq_false h1) ?_); (try simp only [Act.put, List.setIfInBounds_toArray, List.set_cons_zero, List.set_cons_succ]))
    | ((with_reducible refine at_binD 16 ?_); refine L_give (by rfl) (g_ileq 3 _ _ .i64 _ _ false rfl rfl (decide_eq_false h2) ?_); (try simp only [Act.put, List.setIfInBounds_toArray, List.set_cons_zero, List.set_cons_succ]))
    | ((with_reducible refine at_binD 20 ?_); refine L_give (by rfl) (g_isub 3 _ _ .i64 _ _ d rfl rfl hd.out ?_); (try simp only [Act.put, List.setIfInBounds_toArray, List.set_cons_zero, List.set_cons_succ]))
    | ((with_reducible refine at_callD 22 ?_); refine L_give (by rfl) (g_min _ _ _ _ m rfl rfl hm.out ?_); (try simp only [Act.put, List.setIfInBounds_toArray, List.set_cons_zero, List.set_cons_succ]))
    | ((with_reducible refine at_binD 23 ?_); refine L_give (by rfl) (g_igtr 3 _ _ .i64 _ _ false rfl rfl (decide_eq_false h3) ?_); (try simp only [Act.put, List.setIfInBounds_toArray, List.set_cons_zero, List.set_cons_succ]))
    | (refine stop_region 5 ?_; intro X hX))
  refine hX.out ?_
  clear hX X
  refine wp_region_fixed (by kernel_rfl) (by kernel_rfl) [.agg (kc (k)).toArray, .int .i64 (i), .agg (mc (k) (i)).toArray, .int .i64 (p), .agg (mc (K) (p)).toArray, .agg (kc (k0)).toArray, .int .i64 (p), .agg (mc (k0) (p)).toArray, .bool false] (by rfl) (fun w' => Below w2.heap.size w2 w') (Below.refl _ _).drew ?_ ?_
  · simp only [fullL, Act.put, List.setIfInBounds_toArray, List.set_cons_succ, List.set_cons_zero]
    refine ⟨?_, ?_, ?_, ?_, ?_, ?_, ?_, ?_, ?_, trivial⟩
    · exact fun wx hw => gw rfl (g_load_all 23 _ (w1.heap.size) (kc (k)) 23 _ rfl ((b_b.below hw b_b.lt)) Tryd.underlying23 rfl (szK _) ⟨rfl, hw⟩)
    · exact fun wx hw => gw rfl (g_move _ _ rfl ⟨rfl, hw⟩)
    · exact fun wx hw => gw rfl (g_bldM _ _ (k) (i) rfl rfl ⟨rfl, hw⟩)
    · exact fun wx hw => gw rfl (g_move _ _ rfl ⟨rfl, hw⟩)
    · exact fun wx hw => gw rfl (g_call 25 _ _ [.agg (mc (k) (i)).toArray, .int .i64 (p)] (kf25 _ _) rfl (mono_val hw (back_any k K i p d wx ((hT.on hB).on hw) hd hK)))
    · exact fun wx hw => gw rfl (g_load_all 23 _ (w.heap.size) (kc (k0)) 23 _ rfl ((b_a.below hw b_a.lt)) Tryd.underlying23 rfl (szK _) ⟨rfl, hw⟩)
    · exact fun wx hw => gw rfl (g_move _ _ rfl ⟨rfl, hw⟩)
    · exact fun wx hw => gw rfl (g_bldM _ _ (k0) (p) rfl rfl ⟨rfl, hw⟩)
    · exact fun wx hw => gw rfl (g_neqM _ _ (K) (k0) (p) (p) true rfl rfl (decide_eq_true ⟨h4.out, rfl⟩) ⟨rfl, hw⟩)
  · simp only [fullL, Act.put, List.setIfInBounds_toArray, List.set_cons_succ, List.set_cons_zero]
    intro w3 t_
    replace b_a := b_a.below t_ b_a.lt
    replace b_b := b_b.below t_ b_b.lt
    replace hB := hB.trans (t_.mono hB.size)
    clear t_
    go_wp2_with fail
    go_ret
    exact ⟨rfl, hB⟩
set_option maxRecDepth 10000 in
set_option maxHeartbeats 4000000 in
theorem check_5 (k0 : Ky) (p : Int) (k : Ky) (i f : Int) (w : World) (hT : Tabs w) (K : Ky) (d m : Int) (h1 : ¬ p < 0) (h2 : ¬ i ≤ p) (hd : Shut (IntKind.i64.wrap (i - p) = d)) (hm : Shut (min f 1024 = m)) (h3 : ¬ m < d) (hK : Shut (wl (min d 4096).toNat k = K)) (h4 : Shut (¬ (K.l = k0.l))) : Calls Tryd.prog 16 #[.agg (kc k0).toArray, .int .i64 p, .agg (kc k).toArray, .int .i64 i, .int .i64 f] w fun e w' => e = .returned (.int .i64 13) ∧ Below w.heap.size w w' := by
  go_enter Tryd.func16, Tryd.ntmps16
  go_wp2_with (first
    | ((with_reducible refine at_boxD 5 23 ?_); refine L_box 23 _ (kc (k0)) rfl ?_; intro w1 t_ b_a; have l_hB_a : w.heap.size ≤ w.heap.size := Nat.le_refl _; have hB : Below w.heap.size w w1 := t_.below (Below.refl _ _) (Nat.le_refl _); clear t_; (try simp only [Act.put, List.setIfInBounds_toArray, List.set_cons_zero, List.set_cons_succ]))
    | ((with_reducible refine at_boxD 7 23 ?_); refine L_box 23 _ (kc (k)) rfl ?_; intro w2 t_ b_b; have o_a_b := b_a.lt; have l_hB_b : _ ≤ w1.heap.size := hB.size; replace b_a := t_.blk b_a (Nat.ne_of_lt b_a.lt); replace hB := t_.below hB l_hB_b; clear t_; (try simp only [Act.put, List.setIfInBounds_toArray, List.set_cons_zero, List.set_cons_succ]))
    | ((with_reducible refine at_binD 12 ?_); refine L_give (by rfl) (g_ilss 3 _ _ .i64 _ _ false rfl rfl (decide_eq_false h1) ?_); (try simp only [Act.put, List.setIfInBounds_toArray, List.set_cons_zero, List.set_cons_succ]))
    | ((with_reducible refine at_binD 16 ?_); refine L_give (by rfl) (g_ileq 3 _ _ .i64 _ _ false rfl rfl (decide_eq_false h2) ?_); (try simp only [Act.put, List.setIfInBounds_toArray, List.set_cons_zero, List.set_cons_succ]))
    | ((with_reducible refine at_binD 20 ?_); refine L_give (by rfl) (g_isub 3 _ _ .i64 _ _ d rfl rfl hd.out ?_); (try simp only [Act.put, List.setIfInBounds_toArray, List.set_cons_zero, List.set_cons_succ]))
    | ((with_reducible refine at_callD 22 ?_); refine L_give (by rfl) (g_min _ _ _ _ m rfl rfl hm.out ?_); (try simp only [Act.put, List.setIfInBounds_toArray, List.set_cons_zero, List.set_cons_succ]))
    | ((with_reducible refine at_binD 23 ?_); refine L_give (by rfl) (g_igtr 3 _ _ .i64 _ _ false rfl rfl (decide_eq_false h3) ?_); (try simp only [Act.put, List.setIfInBounds_toArray, List.set_cons_zero, List.set_cons_succ]))
    | (refine stop_region 5 ?_; intro X hX))
  refine hX.out ?_
  clear hX X
  refine wp_region_fixed (by kernel_rfl) (by kernel_rfl) [.agg (kc (k)).toArray, .int .i64 (i), .agg (mc (k) (i)).toArray, .int .i64 (p), .agg (mc (K) (p)).toArray, .agg (kc (k0)).toArray, .int .i64 (p), .agg (mc (k0) (p)).toArray, .bool true] (by rfl) (fun w' => Below w2.heap.size w2 w') (Below.refl _ _).drew ?_ ?_
  · simp only [fullL, Act.put, List.setIfInBounds_toArray, List.set_cons_succ, List.set_cons_zero]
    refine ⟨?_, ?_, ?_, ?_, ?_, ?_, ?_, ?_, ?_, trivial⟩
    · exact fun wx hw => gw rfl (g_load_all 23 _ (w1.heap.size) (kc (k)) 23 _ rfl ((b_b.below hw b_b.lt)) Tryd.underlying23 rfl (szK _) ⟨rfl, hw⟩)
    · exact fun wx hw => gw rfl (g_move _ _ rfl ⟨rfl, hw⟩)
    · exact fun wx hw => gw rfl (g_bldM _ _ (k) (i) rfl rfl ⟨rfl, hw⟩)
    · exact fun wx hw => gw rfl (g_move _ _ rfl ⟨rfl, hw⟩)
    · exact fun wx hw => gw rfl (g_call 25 _ _ [.agg (mc (k) (i)).toArray, .int .i64 (p)] (kf25 _ _) rfl (mono_val hw (back_any k K i p d wx ((hT.on hB).on hw) hd hK)))
    · exact fun wx hw => gw rfl (g_load_all 23 _ (w.heap.size) (kc (k0)) 23 _ rfl ((b_a.below hw b_a.lt)) Tryd.underlying23 rfl (szK _) ⟨rfl, hw⟩)
    · exact fun wx hw => gw rfl (g_move _ _ rfl ⟨rfl, hw⟩)
    · exact fun wx hw => gw rfl (g_bldM _ _ (k0) (p) rfl rfl ⟨rfl, hw⟩)
    · exact fun wx hw => gw rfl (g_neqM _ _ (K) (k0) (p) (p) false rfl rfl (decide_eq_false (fun h => h4.out h.1)) ⟨rfl, hw⟩)
  · simp only [fullL, Act.put, List.setIfInBounds_toArray, List.set_cons_succ, List.set_cons_zero]
    intro w3 t_
    replace b_a := b_a.below t_ b_a.lt
    replace b_b := b_b.below t_ b_b.lt
    replace hB := hB.trans (t_.mono hB.size)
    clear t_
    go_wp2_with fail
    go_ret
    exact ⟨rfl, hB⟩
theorem check_any (k0 : Ky) (p : Int) (k : Ky) (i f : Int) (w : World) (hT : Tabs w) (E : Int) (hi : i ≤ 9223372036854775807) (h : Shut (ck k0 p k i f = E)) : Calls Tryd.prog 16 #[.agg (kc k0).toArray, .int .i64 p, .agg (kc k).toArray, .int .i64 i, .int .i64 f] w fun e w' => e = .returned (.int .i64 E) ∧ Below w.heap.size w w' := by
  have h := h.out
  unfold ck at h
  by_cases h1 : p < 0
  · rw [if_pos (.inl h1)] at h; subst h; exact check_1 k0 p k i f w hT h1
  by_cases h2 : i ≤ p
  · rw [if_pos (.inr h2)] at h; subst h; exact check_2 k0 p k i f w hT h1 h2
  rw [if_neg (fun h3 => h3.elim h1 h2)] at h
  have hd : Shut (IntKind.i64.wrap (i - p) = i - p) := ⟨by rw [IntKind.wrap_i64]; omega⟩
  by_cases h3 : f < i - p ∨ 1024 < i - p
  · rw [if_pos h3] at h; subst h; exact check_3 k0 p k i f w hT _ _ h1 h2 hd ⟨rfl⟩ (by omega)
  rw [if_neg h3] at h
  have e : (min (i - p) 4096).toNat = (i - p).toNat := by omega
  by_cases h4 : (wl (i - p).toNat k).l = k0.l
  · rw [if_pos h4] at h; subst h; exact check_4 k0 p k i f w hT _ _ _ h1 h2 hd ⟨rfl⟩ (by omega) ⟨by rw [e]⟩ ⟨h4⟩
  · rw [if_neg h4] at h; subst h; exact check_5 k0 p k i f w hT _ _ _ h1 h2 hd ⟨rfl⟩ (by omega) ⟨by rw [e]⟩ ⟨h4⟩
set_option maxRecDepth 10000 in
set_option maxHeartbeats 4000000 in
theorem learn_0 (k0 : Ky) (p : Int) (k : Ky) (i f : Int) (w : World) (hT : Tabs w) (hi : i ≤ 9223372036854775807) (hE : Shut (ck k0 p k i f = 0)) : Calls Tryd.prog 17 #[.agg (mc k0 p).toArray, .agg (kc k).toArray, .int .i64 i, .int .i64 f] w fun e w' => e = .returned (.tuple #[.agg (mc k i).toArray, .int .i64 0]) ∧ Below w.heap.size w w' := by
  go_enter Tryd.func17, Tryd.ntmps17
  go_wp2_with (first
    | ((with_reducible refine at_boxD 4 34 ?_); refine L_box 34 _ (mc (k0) (p)) rfl ?_; intro w1 t_ b_m; have l_hB_m : w.heap.size ≤ w.heap.size := Nat.le_refl _; have hB : Below w.heap.size w w1 := t_.below (Below.refl _ _) (Nat.le_refl _); clear t_; (try simp only [Act.put, List.setIfInBounds_toArray, List.set_cons_zero, List.set_cons_succ]))
    | ((with_reducible refine at_boxD 5 23 ?_); refine L_box 23 _ (kc (k)) rfl ?_; intro w2 t_ b_k; have o_m_k := b_m.lt; have l_hB_k : _ ≤ w1.heap.size := hB.size; replace b_m := t_.blk b_m (Nat.ne_of_lt b_m.lt); replace hB := t_.below hB l_hB_k; clear t_; (try simp only [Act.put, List.setIfInBounds_toArray, List.set_cons_zero, List.set_cons_succ]))
    | ((with_reducible refine at_allocD 8 34 ?_); refine L_alloc 34 (mc (zk) (0)) zeroM ?_; intro w3 t_ b_r; have o_m_r := b_m.lt; have o_k_r := b_k.lt; have l_hB_r : _ ≤ w2.heap.size := hB.size; replace b_m := t_.blk b_m (Nat.ne_of_lt b_m.lt); replace b_k := t_.blk b_k (Nat.ne_of_lt b_k.lt); replace hB := t_.below hB l_hB_r; clear t_; (try simp only [Act.put, List.setIfInBounds_toArray, List.set_cons_zero, List.set_cons_succ]))
    | ((with_reducible refine at_loadD 12 23 ?_); refine L_give (by rfl) (g_ldK _ (w.heap.size) _ _ rfl (b_m) ?_); (try simp only [Act.put, List.setIfInBounds_toArray, List.set_cons_zero, List.set_cons_succ]))
    | ((with_reducible refine at_loadD 14 3 ?_); refine L_give (by rfl) (g_cell3 _ (w.heap.size) 32 _ rfl ((b_m).cell 32 _ (mc_at _ _)) ?_); (try simp only [Act.put, List.setIfInBounds_toArray, List.set_cons_zero, List.set_cons_succ]))
    | ((with_reducible refine at_loadD 15 23 ?_); refine L_give (by rfl) (g_load_all 23 _ (w1.heap.size) (kc (k)) 23 _ rfl (b_k) Tryd.underlying23 rfl (szK _) ?_); (try simp only [Act.put, List.setIfInBounds_toArray, List.set_cons_zero, List.set_cons_succ]))
    | ((with_reducible refine at_callD 18 ?_); refine L_give (by rfl) (g_call 16 _ _ [.agg (kc (k0)).toArray, .int .i64 (p), .agg (kc (k)).toArray, .int .i64 (i), .int .i64 (f)] (kf16 _ _) rfl ((check_any k0 p k i f w3 (hT.on hB) 0 hi hE).mono ?_)); rintro e w4 ⟨rfl, t_⟩; refine ⟨_, rfl, ?_⟩; replace b_m := b_m.below t_ b_m.lt; replace b_k := b_k.below t_ b_k.lt; replace b_r := b_r.below t_ b_r.lt; replace hB := hB.trans (t_.mono hB.size); clear t_; (try simp only [Act.put, List.setIfInBounds_toArray, List.set_cons_zero, List.set_cons_succ]))
    | ((with_reducible refine at_binD 20 ?_); refine L_give (by rfl) (g_ine 25 _ _ .i64 _ _ false rfl rfl (by decide) ?_); (try simp only [Act.put, List.setIfInBounds_toArray, List.set_cons_zero, List.set_cons_succ]))
    | ((with_reducible refine at_loadD 23 23 ?_); refine L_give (by rfl) (g_load_all 23 _ (w1.heap.size) (kc (k)) 23 _ rfl (b_k) Tryd.underlying23 rfl (szK _) ?_); (try simp only [Act.put, List.setIfInBounds_toArray, List.set_cons_zero, List.set_cons_succ]))
    | ((with_reducible refine at_bld 25 ?_); refine L_give (by rfl) (g_bldM _ _ (k) (i) rfl rfl ?_); (try simp only [Act.put, List.setIfInBounds_toArray, List.set_cons_zero, List.set_cons_succ]))
    | ((with_reducible refine at_storeX 8 34 ?_); refine L_store_all 34 _ _ (w2.heap.size) (mc (k) (i)) _ 34 rfl rfl b_r (szM _ _) (mm_len _ _ _ _) (one_mc _ _) ?_; clear b_r; intro w5 t_ b_r; replace b_m := t_.blk b_m (Nat.ne_of_lt o_m_r); replace b_k := t_.blk b_k (Nat.ne_of_lt o_k_r); replace hB := t_.below hB l_hB_r; clear t_))
  (try simp only [Exit.inBlock, Exit.then])
  exact bodyPost_ret (results_blk_tmp rfl _ (mc (k) (i)) (.int .i64 (0)) _ rfl rfl b_r fieldsM rfl (szM _ _)) rfl ⟨rfl, hB⟩
set_option maxRecDepth 10000 in
set_option maxHeartbeats 4000000 in
theorem learn_1 (k0 : Ky) (p : Int) (k : Ky) (i f : Int) (w : World) (hT : Tabs w) (E : Int) (hE0 : E ≠ 0) (hi : i ≤ 9223372036854775807) (hE : Shut (ck k0 p k i f = E)) : Calls Tryd.prog 17 #[.agg (mc k0 p).toArray, .agg (kc k).toArray, .int .i64 i, .int .i64 f] w fun e w' => e = .returned (.tuple #[.agg (mc zk 0).toArray, .int .i64 E]) ∧ Below w.heap.size w w' := by
  go_enter Tryd.func17, Tryd.ntmps17
  go_wp2_with (first
    | ((with_reducible refine at_boxD 4 34 ?_); refine L_box 34 _ (mc (k0) (p)) rfl ?_; intro w1 t_ b_m; have l_hB_m : w.heap.size ≤ w.heap.size := Nat.le_refl _; have hB : Below w.heap.size w w1 := t_.below (Below.refl _ _) (Nat.le_refl _); clear t_; (try simp only [Act.put, List.setIfInBounds_toArray, List.set_cons_zero, List.set_cons_succ]))
    | ((with_reducible refine at_boxD 5 23 ?_); refine L_box 23 _ (kc (k)) rfl ?_; intro w2 t_ b_k; have o_m_k := b_m.lt; have l_hB_k : _ ≤ w1.heap.size := hB.size; replace b_m := t_.blk b_m (Nat.ne_of_lt b_m.lt); replace hB := t_.below hB l_hB_k; clear t_; (try simp only [Act.put, List.setIfInBounds_toArray, List.set_cons_zero, List.set_cons_succ]))
    | ((with_reducible refine at_allocD 8 34 ?_); refine L_alloc 34 (mc (zk) (0)) zeroM ?_; intro w3 t_ b_r; have o_m_r := b_m.lt; have o_k_r := b_k.lt; have l_hB_r : _ ≤ w2.heap.size := hB.size; replace b_m := t_.blk b_m (Nat.ne_of_lt b_m.lt); replace b_k := t_.blk b_k (Nat.ne_of_lt b_k.lt); replace hB := t_.below hB l_hB_r; clear t_; (try simp only [Act.put, List.setIfInBounds_toArray, List.set_cons_zero, List.set_cons_succ]))
    | ((with_reducible refine at_loadD 12 23 ?_); refine L_give (by rfl) (g_ldK _ (w.heap.size) _ _ rfl (b_m) ?_); (try simp only [Act.put, List.setIfInBounds_toArray, List.set_cons_zero, List.set_cons_succ]))
    | ((with_reducible refine at_loadD 14 3 ?_); refine L_give (by rfl) (g_cell3 _ (w.heap.size) 32 _ rfl ((b_m).cell 32 _ (mc_at _ _)) ?_); (try simp only [Act.put, List.setIfInBounds_toArray, List.set_cons_zero, List.set_cons_succ]))
    | ((with_reducible refine at_loadD 15 23 ?_); refine L_give (by rfl) (g_load_all 23 _ (w1.heap.size) (kc (k)) 23 _ rfl (b_k) Tryd.underlying23 rfl (szK _) ?_); (try simp only [Act.put, List.setIfInBounds_toArray, List.set_cons_zero, List.set_cons_succ]))
    | ((with_reducible refine at_callD 18 ?_); refine L_give (by rfl) (g_call 16 _ _ [.agg (kc (k0)).toArray, .int .i64 (p), .agg (kc (k)).toArray, .int .i64 (i), .int .i64 (f)] (kf16 _ _) rfl ((check_any k0 p k i f w3 (hT.on hB) E hi hE).mono ?_)); rintro e w4 ⟨rfl, t_⟩; refine ⟨_, rfl, ?_⟩; replace b_m := b_m.below t_ b_m.lt; replace b_k := b_k.below t_ b_k.lt; replace b_r := b_r.below t_ b_r.lt; replace hB := hB.trans (t_.mono hB.size); clear t_; (try simp only [Act.put, List.setIfInBounds_toArray, List.set_cons_zero, List.set_cons_succ]))
    | ((with_reducible refine at_binD 20 ?_); refine L_give (by rfl) (g_ine 25 _ _ .i64 _ _ true rfl rfl (decide_eq_true hE0) ?_); (try simp only [Act.put, List.setIfInBounds_toArray, List.set_cons_zero, List.set_cons_succ]))
    | ((with_reducible refine at_bld 21 ?_); refine L_give (by rfl) (g_bldM0 ?_); (try simp only [Act.put, List.setIfInBounds_toArray, List.set_cons_zero, List.set_cons_succ]))
    | ((with_reducible refine at_storeX 8 34 ?_); refine L_store_all 34 _ _ (w2.heap.size) (mc (zk) (0)) _ 34 rfl rfl b_r (szM _ _) (mm_len _ _ _ _) (one_mc _ _) ?_; clear b_r; intro w5 t_ b_r; replace b_m := t_.blk b_m (Nat.ne_of_lt o_m_r); replace b_k := t_.blk b_k (Nat.ne_of_lt o_k_r); replace hB := t_.below hB l_hB_r; clear t_))
  (try simp only [Exit.inBlock, Exit.then])
  exact bodyPost_ret (results_blk_tmp rfl _ (mc (zk) (0)) (.int .i64 (E)) _ rfl rfl b_r fieldsM rfl (szM _ _)) rfl ⟨rfl, hB⟩
theorem learn_any (k0 : Ky) (p : Int) (k : Ky) (i f : Int) (w : World) (hT : Tabs w) (K : Ky) (n E : Int) (hi : i ≤ 9223372036854775807) (h : Shut (ln k0 p k i f = ((K, n), E))) : Calls Tryd.prog 17 #[.agg (mc k0 p).toArray, .agg (kc k).toArray, .int .i64 i, .int .i64 f] w fun e w' => e = .returned (.tuple #[.agg (mc K n).toArray, .int .i64 E]) ∧ Below w.heap.size w w' := by
  have h := h.out
  unfold ln at h
  by_cases h1 : ck k0 p k i f = 0
  · rw [if_pos h1] at h; cases h; exact learn_0 k0 p k i f w hT hi ⟨h1⟩
  · rw [if_neg h1] at h; cases h; exact learn_1 k0 p k i f w hT _ h1 hi ⟨rfl⟩
set_option maxRecDepth 10000 in
set_option maxHeartbeats 4000000 in
theorem rcheck_1 (k0 : Ky) (p : Int) (k : Ky) (i f : Int) (w : World)  (h1 : p < 0) : Calls Tryd.prog 20 #[.agg (kc k0).toArray, .int .i64 p, .agg (kc k).toArray, .int .i64 i, .int .i64 f] w fun e w' => e = .returned (.int .i64 1) ∧ Below w.heap.size w w' := by
  go_enter Tryd.func20, Tryd.ntmps20
  go_wp2_with (first
    | ((with_reducible refine at_boxD 5 23 ?_); refine L_box 23 _ (kc (k0)) rfl ?_; intro w1 t_ b_a; have l_hB_a : w.heap.size ≤ w.heap.size := Nat.le_refl _; have hB : Below w.heap.size w w1 := t_.below (Below.refl _ _) (Nat.le_refl _); clear t_; (try simp only [Act.put, List.setIfInBounds_toArray, List.set_cons_zero, List.set_cons_succ]))
    | ((with_reducible refine at_boxD 7 23 ?_); refine L_box 23 _ (kc (k)) rfl ?_; intro w2 t_ b_b; have o_a_b := b_a.lt; have l_hB_b : _ ≤ w1.heap.size := hB.size; replace b_a := t_.blk b_a (Nat.ne_of_lt b_a.lt); replace hB := t_.below hB l_hB_b; clear t_; (try simp only [Act.put, List.setIfInBounds_toArray, List.set_cons_zero, List.set_cons_succ]))
    | ((with_reducible refine at_binD 12 ?_); refine L_give (by rfl) (g_ilss 3 _ _ .i64 _ _ true rfl rfl (decide_eq_true h1) ?_); (try simp only [Act.put, List.setIfInBounds_toArray, List.set_cons_zero, List.set_cons_succ])))
  go_ret
  exact ⟨rfl, hB⟩
set_option maxRecDepth 10000 in
set_option maxHeartbeats 4000000 in
theorem rcheck_2 (k0 : Ky) (p : Int) (k : Ky) (i f : Int) (w : World) (h1 : ¬ p < 0) (h2 : i < 0) : Calls Tryd.prog 20 #[.agg (kc k0).toArray, .int .i64 p, .agg (kc k).toArray, .int .i64 i, .int .i64 f] w fun e w' => e = .returned (.int .i64 1) ∧ Below w.heap.size w w' := by
  go_enter Tryd.func20, Tryd.ntmps20
  go_wp2_with (first
    | ((with_reducible refine at_boxD 5 23 ?_); refine L_box 23 _ (kc (k0)) rfl ?_; intro w1 t_ b_a; have l_hB_a : w.heap.size ≤ w.heap.size := Nat.le_refl _; have hB : Below w.heap.size w w1 := t_.below (Below.refl _ _) (Nat.le_refl _); clear t_; (try simp only [Act.put, List.setIfInBounds_toArray, List.set_cons_zero, List.set_cons_succ]))
    | ((with_reducible refine at_boxD 7 23 ?_); refine L_box 23 _ (kc (k)) rfl ?_; intro w2 t_ b_b; have o_a_b := b_a.lt; have l_hB_b : _ ≤ w1.heap.size := hB.size; replace b_a := t_.blk b_a (Nat.ne_of_lt b_a.lt); replace hB := t_.below hB l_hB_b; clear t_; (try simp only [Act.put, List.setIfInBounds_toArray, List.set_cons_zero, List.set_cons_succ]))
    | ((with_reducible refine at_binD 12 ?_); refine L_give (by rfl) (g_ilss 3 _ _ .i64 _ _ false rfl rfl (decide_eq_false h1) ?_); (try simp only [Act.put, List.setIfInBounds_toArray, List.set_cons_zero, List.set_cons_succ]))
    | ((with_reducible refine at_binD 15 ?_); refine L_give (by rfl) (g_ilss 3 _ _ .i64 _ _ true rfl rfl (decide_eq_true h2) ?_); (try simp only [Act.put, List.setIfInBounds_toArray, List.set_cons_zero, List.set_cons_succ])))
  go_ret
  exact ⟨rfl, hB⟩
set_option maxRecDepth 10000 in
set_option maxHeartbeats 4000000 in
theorem rcheck_3 (k0 : Ky) (p : Int) (k : Ky) (i f : Int) (w : World) (h1 : ¬ p < 0) (h2 : ¬ i < 0) (h3 : i ≤ p) : Calls Tryd.prog 20 #[.agg (kc k0).toArray, .int .i64 p, .agg (kc k).toArray, .int .i64 i, .int .i64 f] w fun e w' => e = .returned (.int .i64 1) ∧ Below w.heap.size w w' := by
  go_enter Tryd.func20, Tryd.ntmps20
  go_wp2_with (first
    | ((with_reducible refine at_boxD 5 23 ?_); refine L_box 23 _ (kc (k0)) rfl ?_; intro w1 t_ b_a; have l_hB_a : w.heap.size ≤ w.heap.size := Nat.le_refl _; have hB : Below w.heap.size w w1 := t_.below (Below.refl _ _) (Nat.le_refl _); clear t_; (try simp only [Act.put, List.setIfInBounds_toArray, List.set_cons_zero, List.set_cons_succ]))
    | ((with_reducible refine at_boxD 7 23 ?_); refine L_box 23 _ (kc (k)) rfl ?_; intro w2 t_ b_b; have o_a_b := b_a.lt; have l_hB_b : _ ≤ w1.heap.size := hB.size; replace b_a := t_.blk b_a (Nat.ne_of_lt b_a.lt); replace hB := t_.below hB l_hB_b; clear t_; (try simp only [Act.put, List.setIfInBounds_toArray, List.set_cons_zero, List.set_cons_succ]))
    | ((with_reducible refine at_binD 12 ?_); refine L_give (by rfl) (g_ilss 3 _ _ .i64 _ _ false rfl rfl (decide_eq_false h1) ?_); (try simp only [Act.put, List.setIfInBounds_toArray, List.set_cons_zero, List.set_cons_succ]))
    | ((with_reducible refine at_binD 15 ?_); refine L_give (by rfl) (g_ilss 3 _ _ .i64 _ _ false rfl rfl (decide_eq_false h2) ?_); (try simp only [Act.put, List.setIfInBounds_toArray, List.set_cons_zero, List.set_cons_succ]))
    | ((with_reducible refine at_binD 20 ?_); refine L_give (by rfl) (g_ileq 3 _ _ .i64 _ _ true rfl rfl (decide_eq_true h3) ?_); (try simp only [Act.put, List.setIfInBounds_toArray, List.set_cons_zero, List.set_cons_succ])))
  go_ret
  exact ⟨rfl, hB⟩
set_option maxRecDepth 10000 in
set_option maxHeartbeats 4000000 in
theorem rcheck_4 (k0 : Ky) (p : Int) (k : Ky) (i f : Int) (w : World) (d : Int) (h1 : ¬ p < 0) (h2 : ¬ i < 0) (h3 : ¬ i ≤ p) (hd : Shut (IntKind.i64.wrap (i - p) = d)) (h4 : f < d) : Calls Tryd.prog 20 #[.agg (kc k0).toArray, .int .i64 p, .agg (kc k).toArray, .int .i64 i, .int .i64 f] w fun e w' => e = .returned (.int .i64 16) ∧ Below w.heap.size w w' := by
  go_enter Tryd.func20, Tryd.ntmps20
  go_wp2_with (first
    | ((with_reducible refine at_boxD 5 23 ?_); refine L_box 23 _ (kc (k0)) rfl ?_; intro w1 t_ b_a; have l_hB_a : w.heap.size ≤ w.heap.size := Nat.le_refl _; have hB : Below w.heap.size w w1 := t_.below (Below.refl _ _) (Nat.le_refl _); clear t_; (try simp only [Act.put, List.setIfInBounds_toArray, List.set_cons_zero, List.set_cons_succ]))
    | ((with_reducible refine at_boxD 7 23 ?_); refine L_box 23 _ (kc (k)) rfl ?_; intro w2 t_ b_b; have o_a_b := b_a.lt; have l_hB_b : _ ≤ w1.heap.size := hB.size; replace b_a := t_.blk b_a (Nat.ne_of_lt b_a.lt); replace hB := t_.below hB l_hB_b; clear t_; (try simp only [Act.put, List.setIfInBounds_toArray, List.set_cons_zero, List.set_cons_succ]))
    | ((with_reducible refine at_binD 12 ?_); refine L_give (by rfl) (g_ilss 3 _ _ .i64 _ _ false rfl rfl (decide_eq_false h1) ?_); (try simp only [Act.put, List.setIfInBounds_toArray, List.set_cons_zero, List.set_cons_succ]))
    | ((with_reducible refine at_binD 15 ?_); refine L_give (by rfl) (g_ilss 3 _ _ .i64 _ _ false rfl rfl (decide_eq_false h2) ?_); (try simp only [Act.put, List.setIfInBounds_toArray, List.set_cons_zero, List.set_cons_succ]))
    | ((with_reducible refine at_binD 20 ?_); refine L_give (by rfl) (g_ileq 3 _ _ .i64 _ _ false rfl rfl (decide_eq_false h3) ?_); (try simp only [Act.put, List.setIfInBounds_toArray, List.set_cons_zero, List.set_cons_succ]))
    | ((with_reducible refine at_binD 24 ?_); refine L_give (by rfl) (g_isub 3 _ _ .i64 _ _ d rfl rfl hd.out ?_); (try simp only [Act.put, List.setIfInBounds_toArray, List.set_cons_zero, List.set_cons_succ]))
    | ((with_reducible refine at_binD 26 ?_); refine L_give (by rfl) (g_igtr 3 _ _ .i64 _ _ true rfl rfl (decide_eq_true h4) ?_); (try simp only [Act.put, List.setIfInBounds_toArray, List.set_cons_zero, List.set_cons_succ])))
  go_ret
  exact ⟨rfl, hB⟩
set_option maxRecDepth 10000 in
set_option maxHeartbeats 4000000 in
theorem rcheck_5 (k0 : Ky) (p : Int) (k : Ky) (i f : Int) (w : World) (d : Int) (h1 : ¬ p < 0) (h2 : ¬ i < 0) (h3 : ¬ i ≤ p) (hd : Shut (IntKind.i64.wrap (i - p) = d)) (h4 : ¬ f < d) (h5 : 1024 < d) : Calls Tryd.prog 20 #[.agg (kc k0).toArray, .int .i64 p, .agg (kc k).toArray, .int .i64 i, .int .i64 f] w fun e w' => e = .returned (.int .i64 16) ∧ Below w.heap.size w w' := by
  go_enter Tryd.func20, Tryd.ntmps20
  go_wp2_with (first
    | ((with_reducible refine at_boxD 5 23 ?_); refine L_box 23 _ (kc (k0)) rfl ?_; intro w1 t_ b_a; have l_hB_a : w.heap.size ≤ w.heap.size := Nat.le_refl _; have hB : Below w.heap.size w w1 := t_.below (Below.refl _ _) (Nat.le_refl _); clear t_; (try simp only [Act.put, List.setIfInBounds_toArray, List.set_cons_zero, List.set_cons_succ]))
    | ((with_reducible refine at_boxD 7 23 ?_); refine L_box 23 _ (kc (k)) rfl ?_; intro w2 t_ b_b; have o_a_b := b_a.lt; have l_hB_b : _ ≤ w1.heap.size := hB.size; replace b_a := t_.blk b_a (Nat.ne_of_lt b_a.lt); replace hB := t_.below hB l_hB_b; clear t_; (try simp only [Act.put, List.setIfInBounds_toArray, List.set_cons_zero, List.set_cons_succ]))
    | ((with_reducible refine at_binD 12 ?_); refine L_give (by rfl) (g_ilss 3 _ _ .i64 _ _ false rfl rfl (decide_eq_false h1) ?_); (try simp only [Act.put, List.setIfInBounds_toArray, List.set_cons_zero, List.set_cons_succ]))
    | ((with_reducible refine at_binD 15 ?_); refine L_give (by rfl) (g_ilss 3 _ _ .i64 _ _ false rfl rfl (decide_eq_false h2) ?_); (try simp only [Act.put, List.setIfInBounds_toArray, List.set_cons_zero, List.set_cons_succ]))
    | ((with_reducible refine at_binD 20 ?_); refine L_give (by rfl) (g_ileq 3 _ _ .i64 _ _ false rfl rfl (decide_eq_false h3) ?_); (try simp only [Act.put, List.setIfInBounds_toArray, List.set_cons_zero, List.set_cons_succ]))
    | ((with_reducible refine at_binD 24 ?_); refine L_give (by rfl) (g_isub 3 _ _ .i64 _ _ d rfl rfl hd.out ?_); (try simp only [Act.put, List.setIfInBounds_toArray, List.set_cons_zero, List.set_cons_succ]))
    | ((with_reducible refine at_binD 26 ?_); refine L_give (by rfl) (g_igtr 3 _ _ .i64 _ _ false rfl rfl (decide_eq_false h4) ?_); (try simp only [Act.put, List.setIfInBounds_toArray, List.set_cons_zero, List.set_cons_succ]))
    | ((with_reducible refine at_binD 30 ?_); refine L_give (by rfl) (g_isub 3 _ _ .i64 _ _ d rfl rfl hd.out ?_); (try simp only [Act.put, List.setIfInBounds_toArray, List.set_cons_zero, List.set_cons_succ]))
    | ((with_reducible refine at_binD 31 ?_); refine L_give (by rfl) (g_igtr 3 _ _ .i64 _ _ true rfl rfl (decide_eq_true h5) ?_); (try simp only [Act.put, List.setIfInBounds_toArray, List.set_cons_zero, List.set_cons_succ])))
  go_ret
  exact ⟨rfl, hB⟩
set_option maxRecDepth 10000 in
set_option maxHeartbeats 4000000 in
theorem rcheck_6 (k0 : Ky) (p : Int) (k : Ky) (i f : Int) (w : World) (d : Int) (h1 : ¬ p < 0) (h2 : ¬ i < 0) (h3 : ¬ i ≤ p) (hd : Shut (IntKind.i64.wrap (i - p) = d)) (hde : Shut (d = i - p)) (hi : i ≤ 9223372036854775807) (h4 : ¬ f < d) (h5 : ¬ 1024 < d) (h7 : ((wl d.toNat k).l = k0.l)) : Calls Tryd.prog 20 #[.agg (kc k0).toArray, .int .i64 p, .agg (kc k).toArray, .int .i64 i, .int .i64 f] w fun e w' => e = .returned (.int .i64 0) ∧ Below w.heap.size w w' := by
  go_enter Tryd.func20, Tryd.ntmps20
  go_wp2_with (first
    | ((with_reducible refine at_boxD 5 23 ?_); refine L_box 23 _ (kc (k0)) rfl ?_; intro w1 t_ b_a; have l_hB_a : w.heap.size ≤ w.heap.size := Nat.le_refl _; have hB : Below w.heap.size w w1 := t_.below (Below.refl _ _) (Nat.le_refl _); clear t_; (try simp only [Act.put, List.setIfInBounds_toArray, List.set_cons_zero, List.set_cons_succ]))
    | ((with_reducible refine at_boxD 7 23 ?_); refine L_box 23 _ (kc (k)) rfl ?_; intro w2 t_ b_b; have o_a_b := b_a.lt; have l_hB_b : _ ≤ w1.heap.size := hB.size; replace b_a := t_.blk b_a (Nat.ne_of_lt b_a.lt); replace hB := t_.below hB l_hB_b; clear t_; (try simp only [Act.put, List.setIfInBounds_toArray, List.set_cons_zero, List.set_cons_succ]))
    | ((with_reducible refine at_binD 12 ?_); refine L_give (by rfl) (g_ilss 3 _ _ .i64 _ _ false rfl rfl (decide_eq_false h1) ?_); (try simp only [Act.put, List.setIfInBounds_toArray, List.set_cons_zero, List.set_cons_succ]))
    | ((with_reducible refine at_binD 15 ?_); refine L_give (by rfl) (g_ilss 3 _ _ .i64 _ _ false rfl rfl (decide_eq_false h2) ?_); (try simp only [Act.put, List.setIfInBounds_toArray, List.set_cons_zero, List.set_cons_succ]))
    | ((with_reducible refine at_binD 20 ?_); refine L_give (by rfl) (g_ileq 3 _ _ .i64 _ _ false rfl rfl (decide_eq_false h3) ?_); (try simp only [Act.put, List.setIfInBounds_toArray, List.set_cons_zero, List.set_cons_succ]))
    | ((with_reducible refine at_binD 24 ?_); refine L_give (by rfl) (g_isub 3 _ _ .i64 _ _ d rfl rfl hd.out ?_); (try simp only [Act.put, List.setIfInBounds_toArray, List.set_cons_zero, List.set_cons_succ]))
    | ((with_reducible refine at_binD 26 ?_); refine L_give (by rfl) (g_igtr 3 _ _ .i64 _ _ false rfl rfl (decide_eq_false h4) ?_); (try simp only [Act.put, List.setIfInBounds_toArray, List.set_cons_zero, List.set_cons_succ]))
    | ((with_reducible refine at_binD 30 ?_); refine L_give (by rfl) (g_isub 3 _ _ .i64 _ _ d rfl rfl hd.out ?_); (try simp only [Act.put, List.setIfInBounds_toArray, List.set_cons_zero, List.set_cons_succ]))
    | ((with_reducible refine at_binD 31 ?_); refine L_give (by rfl) (g_igtr 3 _ _ .i64 _ _ false rfl rfl (decide_eq_false h5) ?_); (try simp only [Act.put, List.setIfInBounds_toArray, List.set_cons_zero, List.set_cons_succ])))
  go_loopw [3] (fun v wr => ∃ (j : Nat) (x : Int), Shut ((j : Int) + x = i) ∧ p ≤ x ∧ v = .int .i64 x ∧ Blk wr w.heap.size (kc k0) 23 ∧ Blk wr w1.heap.size (kc (wl j k)) 23 ∧ Below w.heap.size w wr) (fun v _ => (intOf v - p).toNat)
  case atStart => exact ⟨0, i, ⟨by omega⟩, by omega, rfl, b_a, by rw [wl_zero]; exact b_b, hB⟩
  case round =>
    clear b_a b_b hB
    obtain ⟨j, x, hj, hx, rfl, b_a, b_b, hB⟩ := hrel
    obtain ⟨X, hX⟩ : ∃ X, wl j k = X := ⟨_, rfl⟩
    rw [hX] at b_b
    by_cases hlt : p < x
    · obtain ⟨Y, hY⟩ : ∃ Y, sm X = Y := ⟨_, rfl⟩
      have HY : Shut (sm X = Y) := ⟨hY⟩
      have HN : Shut (wl (j + 1) k = Y) := ⟨by rw [wl_succ, hX, hY]⟩
      have hs : Shut (IntKind.i64.wrap (x - 1) = x - 1) := ⟨by rw [IntKind.wrap_i64]; have := hj.out; omega⟩
      clear hX hY
      go_wp2_with (first
        | ((with_reducible refine at_binD 35 ?_); refine L_give (by rfl) (g_igtr 3 _ _ .i64 _ _ true rfl rfl (decide_eq_true hlt) ?_); (try simp only [Act.put, List.setIfInBounds_toArray, List.set_cons_zero, List.set_cons_succ]))
        | ((with_reducible refine at_sliceD 38 ?_); refine L_give (by rfl) (g_slK _ (w1.heap.size) rfl ?_); (try simp only [Act.put, List.setIfInBounds_toArray, List.set_cons_zero, List.set_cons_succ]))
        | ((with_reducible refine at_cnv 39 ?_); refine L_give (by rfl) (g_strK _ (w1.heap.size) (X) 23 rfl (b_b) ?_); (try simp only [Act.put, List.setIfInBounds_toArray, List.set_cons_zero, List.set_cons_succ]))
        | ((with_reducible refine at_callD 40 ?_); refine L_give (by rfl) (g_call 21 _ _ [.string (⟨(X).l.toArray⟩)] (kf21 _ _) rfl ((rsm_any X Y wr HY).mono ?_)); rintro e w11 ⟨rfl, t_⟩; refine ⟨_, rfl, ?_⟩; replace b_a := b_a.below t_ b_a.lt; replace b_b := b_b.below t_ b_b.lt; replace hB := hB.trans (t_.mono hB.size); clear t_; (try simp only [Act.put, List.setIfInBounds_toArray, List.set_cons_zero, List.set_cons_succ]))
        | ((with_reducible refine at_storeX 7 23 ?_); refine L_store_all 23 _ _ (w1.heap.size) (kc (Y)) _ 23 rfl rfl b_b (szK _) (kk_len _ _) (one_kc _) ?_; clear b_b; intro w12 t_ b_b; replace b_a := t_.blk b_a (Nat.ne_of_lt o_a_b); replace hB := t_.below hB l_hB_b; clear t_)
        | ((with_reducible refine at_binD 37 ?_); refine L_give (by rfl) (g_isub 3 _ _ .i64 _ _ (x - 1) rfl rfl hs.out ?_); (try simp only [Act.put, List.setIfInBounds_toArray, List.set_cons_zero, List.set_cons_succ])))
      refine ⟨⟨j + 1, x - 1, ⟨by have := hj.out; omega⟩, by omega, rfl, b_a, by rw [HN.out]; exact b_b, hB⟩, by simp [intOf]; omega⟩
    · have hjd : wl d.toNat k = X := by rw [← hX]; congr 1; have := hj.out; have := hde.out; omega
      have h6 : (X.l = k0.l) := by rw [← hjd]; exact h7
      clear hX hjd
      go_wp2_with (first
        | ((with_reducible refine at_binD 35 ?_); refine L_give (by rfl) (g_igtr 3 _ _ .i64 _ _ false rfl rfl (decide_eq_false hlt) ?_); (try simp only [Act.put, List.setIfInBounds_toArray, List.set_cons_zero, List.set_cons_succ]))
        | ((with_reducible refine at_loadD 41 23 ?_); refine L_give (by rfl) (g_load_all 23 _ (w1.heap.size) (kc (X)) 23 _ rfl (b_b) Tryd.underlying23 rfl (szK _) ?_); (try simp only [Act.put, List.setIfInBounds_toArray, List.set_cons_zero, List.set_cons_succ]))
        | ((with_reducible refine at_loadD 42 23 ?_); refine L_give (by rfl) (g_load_all 23 _ (w.heap.size) (kc (k0)) 23 _ rfl (b_a) Tryd.underlying23 rfl (szK _) ?_); (try simp only [Act.put, List.setIfInBounds_toArray, List.set_cons_zero, List.set_cons_succ]))
        | ((with_reducible refine at_binD 43 ?_); refine L_give (by rfl) (g_neqK _ _ (X) (k0) true rfl rfl (decide_eq_true h6) ?_); (try simp only [Act.put, List.setIfInBounds_toArray, List.set_cons_zero, List.set_cons_succ])))
      go_ret
      exact ⟨rfl, hB⟩
set_option maxRecDepth 10000 in
set_option maxHeartbeats 4000000 in
theorem rcheck_7 (k0 : Ky) (p : Int) (k : Ky) (i f : Int) (w : World) (d : Int) (h1 : ¬ p < 0) (h2 : ¬ i < 0) (h3 : ¬ i ≤ p) (hd : Shut (IntKind.i64.wrap (i - p) = d)) (hde : Shut (d = i - p)) (hi : i ≤ 9223372036854775807) (h4 : ¬ f < d) (h5 : ¬ 1024 < d) (h7 : ¬ ((wl d.toNat k).l = k0.l)) : Calls Tryd.prog 20 #[.agg (kc k0).toArray, .int .i64 p, .agg (kc k).toArray, .int .i64 i, .int .i64 f] w fun e w' => e = .returned (.int .i64 13) ∧ Below w.heap.size w w' := by
  go_enter Tryd.func20, Tryd.ntmps20
  go_wp2_with (first
    | ((with_reducible refine at_boxD 5 23 ?_); refine L_box 23 _ (kc (k0)) rfl ?_; intro w1 t_ b_a; have l_hB_a : w.heap.size ≤ w.heap.size := Nat.le_refl _; have hB : Below w.heap.size w w1 := t_.below (Below.refl _ _) (Nat.le_refl _); clear t_; (try simp only [Act.put, List.setIfInBounds_toArray, List.set_cons_zero, List.set_cons_succ]))
    | ((with_reducible refine at_boxD 7 23 ?_); refine L_box 23 _ (kc (k)) rfl ?_; intro w2 t_ b_b; have o_a_b := b_a.lt; have l_hB_b : _ ≤ w1.heap.size := hB.size; replace b_a := t_.blk b_a (Nat.ne_of_lt b_a.lt); replace hB := t_.below hB l_hB_b; clear t_; (try simp only [Act.put, List.setIfInBounds_toArray, List.set_cons_zero, List.set_cons_succ]))
    | ((with_reducible refine at_binD 12 ?_); refine L_give (by rfl) (g_ilss 3 _ _ .i64 _ _ false rfl rfl (decide_eq_false h1) ?_); (try simp only [Act.put, List.setIfInBounds_toArray, List.set_cons_zero, List.set_cons_succ]))
    | ((with_reducible refine at_binD 15 ?_); refine L_give (by rfl) (g_ilss 3 _ _ .i64 _ _ false rfl rfl (decide_eq_false h2) ?_); (try simp only [Act.put, List.setIfInBounds_toArray, List.set_cons_zero, List.set_cons_succ]))
    | ((with_reducible refine at_binD 20 ?_); refine L_give (by rfl) (g_ileq 3 _ _ .i64 _ _ false rfl rfl (decide_eq_false h3) ?_); (try simp only [Act.put, List.setIfInBounds_toArray, List.set_cons_zero, List.set_cons_succ]))
    | ((with_reducible refine at_binD 24 ?_); refine L_give (by rfl) (g_isub 3 _ _ .i64 _ _ d rfl rfl hd.out ?_); (try simp only [Act.put, List.setIfInBounds_toArray, List.set_cons_zero, List.set_cons_succ]))
    | ((with_reducible refine at_binD 26 ?_); refine L_give (by rfl) (g_igtr 3 _ _ .i64 _ _ false rfl rfl (decide_eq_false h4) ?_); (try simp only [Act.put, List.setIfInBounds_toArray, List.set_cons_zero, List.set_cons_succ]))
    | ((with_reducible refine at_binD 30 ?_); refine L_give (by rfl) (g_isub 3 _ _ .i64 _ _ d rfl rfl hd.out ?_); (try simp only [Act.put, List.setIfInBounds_toArray, List.set_cons_zero, List.set_cons_succ]))
    | ((with_reducible refine at_binD 31 ?_); refine L_give (by rfl) (g_igtr 3 _ _ .i64 _ _ false rfl rfl (decide_eq_false h5) ?_); (try simp only [Act.put, List.setIfInBounds_toArray, List.set_cons_zero, List.set_cons_succ])))
  go_loopw [3] (fun v wr => ∃ (j : Nat) (x : Int), Shut ((j : Int) + x = i) ∧ p ≤ x ∧ v = .int .i64 x ∧ Blk wr w.heap.size (kc k0) 23 ∧ Blk wr w1.heap.size (kc (wl j k)) 23 ∧ Below w.heap.size w wr) (fun v _ => (intOf v - p).toNat)
  case atStart => exact ⟨0, i, ⟨by omega⟩, by omega, rfl, b_a, by rw [wl_zero]; exact b_b, hB⟩
  case round =>
    clear b_a b_b hB
    obtain ⟨j, x, hj, hx, rfl, b_a, b_b, hB⟩ := hrel
    obtain ⟨X, hX⟩ : ∃ X, wl j k = X := ⟨_, rfl⟩
    rw [hX] at b_b
    by_cases hlt : p < x
    · obtain ⟨Y, hY⟩ : ∃ Y, sm X = Y := ⟨_, rfl⟩
      have HY : Shut (sm X = Y) := ⟨hY⟩
      have HN : Shut (wl (j + 1) k = Y) := ⟨by rw [wl_succ, hX, hY]⟩
      have hs : Shut (IntKind.i64.wrap (x - 1) = x - 1) := ⟨by rw [IntKind.wrap_i64]; have := hj.out; omega⟩
      clear hX hY
      go_wp2_with (first
        | ((with_reducible refine at_binD 35 ?_); refine L_give (by rfl) (g_igtr 3 _ _ .i64 _ _ true rfl rfl (decide_eq_true hlt) ?_); (try simp only [Act.put, List.setIfInBounds_toArray, List.set_cons_zero, List.set_cons_succ]))
        | ((with_reducible refine at_sliceD 38 ?_); refine L_give (by rfl) (g_slK _ (w1.heap.size) rfl ?_); (try simp only [Act.put, List.setIfInBounds_toArray, List.set_cons_zero, List.set_cons_succ]))
        | ((with_reducible refine at_cnv 39 ?_); refine L_give (by rfl) (g_strK _ (w1.heap.size) (X) 23 rfl (b_b) ?_); (try simp only [Act.put, List.setIfInBounds_toArray, List.set_cons_zero, List.set_cons_succ]))
        | ((with_reducible refine at_callD 40 ?_); refine L_give (by rfl) (g_call 21 _ _ [.string (⟨(X).l.toArray⟩)] (kf21 _ _) rfl ((rsm_any X Y wr HY).mono ?_)); rintro e w11 ⟨rfl, t_⟩; refine ⟨_, rfl, ?_⟩; replace b_a := b_a.below t_ b_a.lt; replace b_b := b_b.below t_ b_b.lt; replace hB := hB.trans (t_.mono hB.size); clear t_; (try simp only [Act.put, List.setIfInBounds_toArray, List.set_cons_zero, List.set_cons_succ]))
        | ((with_reducible refine at_storeX 7 23 ?_); refine L_store_all 23 _ _ (w1.heap.size) (kc (Y)) _ 23 rfl rfl b_b (szK _) (kk_len _ _) (one_kc _) ?_; clear b_b; intro w12 t_ b_b; replace b_a := t_.blk b_a (Nat.ne_of_lt o_a_b); replace hB := t_.below hB l_hB_b; clear t_)
        | ((with_reducible refine at_binD 37 ?_); refine L_give (by rfl) (g_isub 3 _ _ .i64 _ _ (x - 1) rfl rfl hs.out ?_); (try simp only [Act.put, List.setIfInBounds_toArray, List.set_cons_zero, List.set_cons_succ])))
      refine ⟨⟨j + 1, x - 1, ⟨by have := hj.out; omega⟩, by omega, rfl, b_a, by rw [HN.out]; exact b_b, hB⟩, by simp [intOf]; omega⟩
    · have hjd : wl d.toNat k = X := by rw [← hX]; congr 1; have := hj.out; have := hde.out; omega
      have h6 : ¬ (X.l = k0.l) := by rw [← hjd]; exact h7
      clear hX hjd
      go_wp2_with (first
        | ((with_reducible refine at_binD 35 ?_); refine L_give (by rfl) (g_igtr 3 _ _ .i64 _ _ false rfl rfl (decide_eq_false hlt) ?_); (try simp only [Act.put, List.setIfInBounds_toArray, List.set_cons_zero, List.set_cons_succ]))
        | ((with_reducible refine at_loadD 41 23 ?_); refine L_give (by rfl) (g_load_all 23 _ (w1.heap.size) (kc (X)) 23 _ rfl (b_b) Tryd.underlying23 rfl (szK _) ?_); (try simp only [Act.put, List.setIfInBounds_toArray, List.set_cons_zero, List.set_cons_succ]))
        | ((with_reducible refine at_loadD 42 23 ?_); refine L_give (by rfl) (g_load_all 23 _ (w.heap.size) (kc (k0)) 23 _ rfl (b_a) Tryd.underlying23 rfl (szK _) ?_); (try simp only [Act.put, List.setIfInBounds_toArray, List.set_cons_zero, List.set_cons_succ]))
        | ((with_reducible refine at_binD 43 ?_); refine L_give (by rfl) (g_neqK _ _ (X) (k0) false rfl rfl (decide_eq_false h6) ?_); (try simp only [Act.put, List.setIfInBounds_toArray, List.set_cons_zero, List.set_cons_succ])))
      go_ret
      exact ⟨rfl, hB⟩
theorem rcheck_any (k0 : Ky) (p : Int) (k : Ky) (i f : Int) (w : World) (E : Int) (hi : i ≤ 9223372036854775807) (h : Shut (ck k0 p k i f = E)) : Calls Tryd.prog 20 #[.agg (kc k0).toArray, .int .i64 p, .agg (kc k).toArray, .int .i64 i, .int .i64 f] w fun e w' => e = .returned (.int .i64 E) ∧ Below w.heap.size w w' := by
  have h := h.out
  unfold ck at h
  by_cases h1 : p < 0
  · rw [if_pos (.inl h1)] at h; subst h; exact rcheck_1 k0 p k i f w h1
  by_cases h3 : i ≤ p
  · rw [if_pos (.inr h3)] at h; subst h
    by_cases h2 : i < 0
    · exact rcheck_2 k0 p k i f w h1 h2
    · exact rcheck_3 k0 p k i f w h1 h2 h3
  have h2 : ¬ i < 0 := by omega
  rw [if_neg (fun h4 => h4.elim h1 h3)] at h
  have hd : Shut (IntKind.i64.wrap (i - p) = i - p) := ⟨by rw [IntKind.wrap_i64]; omega⟩
  by_cases h4 : f < i - p
  · rw [if_pos (.inl h4)] at h; subst h; exact rcheck_4 k0 p k i f w _ h1 h2 h3 hd h4
  by_cases h5 : 1024 < i - p
  · rw [if_pos (.inr h5)] at h; subst h; exact rcheck_5 k0 p k i f w _ h1 h2 h3 hd h4 h5
  rw [if_neg (fun h6 => h6.elim h4 h5)] at h
  by_cases h6 : (wl (i - p).toNat k).l = k0.l
  · rw [if_pos h6] at h; subst h; exact rcheck_6 k0 p k i f w _ h1 h2 h3 hd ⟨rfl⟩ hi h4 h5 h6
  · rw [if_neg h6] at h; subst h; exact rcheck_7 k0 p k i f w _ h1 h2 h3 hd ⟨rfl⟩ hi h4 h5 h6
set_option maxRecDepth 10000 in
set_option maxHeartbeats 4000000 in
theorem rkey_1 (s : Ky) (n i : Int) (w : World)  (h1 : n < 1) : Calls Tryd.prog 11 #[.agg (kc s).toArray, .int .i64 n, .int .i64 i] w fun e w' => e = .returned (.tuple #[.agg (kc zk).toArray, .int .i64 1]) ∧ Below w.heap.size w w' := by
  go_enter Tryd.func11, Tryd.ntmps11
  go_wp2_with (first
    | ((with_reducible refine at_boxD 3 23 ?_); refine L_box 23 _ (kc (s)) rfl ?_; intro w1 t_ b_k; have l_hB_k : w.heap.size ≤ w.heap.size := Nat.le_refl _; have hB : Below w.heap.size w w1 := t_.below (Below.refl _ _) (Nat.le_refl _); clear t_; (try simp only [Act.put, List.setIfInBounds_toArray, List.set_cons_zero, List.set_cons_succ]))
    | ((with_reducible refine at_allocD 6 23 ?_); refine L_alloc 23 (kc (zk)) zeroK ?_; intro w2 t_ b_r; have o_k_r := b_k.lt; have l_hB_r : _ ≤ w1.heap.size := hB.size; replace b_k := t_.blk b_k (Nat.ne_of_lt b_k.lt); replace hB := t_.below hB l_hB_r; clear t_; (try simp only [Act.put, List.setIfInBounds_toArray, List.set_cons_zero, List.set_cons_succ]))
    | ((with_reducible refine at_binD 11 ?_); refine L_give (by rfl) (g_ilss 3 _ _ .i64 _ _ true rfl rfl (decide_eq_true h1) ?_); (try simp only [Act.put, List.setIfInBounds_toArray, List.set_cons_zero, List.set_cons_succ]))
    | ((with_reducible refine at_bld 25 ?_); refine L_give (by rfl) (g_bldK0 ?_); (try simp only [Act.put, List.setIfInBounds_toArray, List.set_cons_zero, List.set_cons_succ]))
    | ((with_reducible refine at_storeX 6 23 ?_); refine L_store_all 23 _ _ (w1.heap.size) (kc (zk)) _ 23 rfl rfl b_r (szK _) (kk_len _ _) (one_kc _) ?_; clear b_r; intro w3 t_ b_r; replace b_k := t_.blk b_k (Nat.ne_of_lt o_k_r); replace hB := t_.below hB l_hB_r; clear t_))
  (try simp only [Exit.inBlock, Exit.then])
  exact bodyPost_ret (results_blk_tmp rfl _ (kc (zk)) (.int .i64 (1)) _ rfl rfl b_r Tryd.underlying23 rfl (szK _)) rfl ⟨rfl, hB⟩
set_option maxRecDepth 10000 in
set_option maxHeartbeats 4000000 in
theorem rkey_2 (s : Ky) (n i : Int) (w : World) (h1 : ¬ n < 1) (h2 : 1024 < n) : Calls Tryd.prog 11 #[.agg (kc s).toArray, .int .i64 n, .int .i64 i] w fun e w' => e = .returned (.tuple #[.agg (kc zk).toArray, .int .i64 1]) ∧ Below w.heap.size w w' := by
  go_enter Tryd.func11, Tryd.ntmps11
  go_wp2_with (first
    | ((with_reducible refine at_boxD 3 23 ?_); refine L_box 23 _ (kc (s)) rfl ?_; intro w1 t_ b_k; have l_hB_k : w.heap.size ≤ w.heap.size := Nat.le_refl _; have hB : Below w.heap.size w w1 := t_.below (Below.refl _ _) (Nat.le_refl _); clear t_; (try simp only [Act.put, List.setIfInBounds_toArray, List.set_cons_zero, List.set_cons_succ]))
    | ((with_reducible refine at_allocD 6 23 ?_); refine L_alloc 23 (kc (zk)) zeroK ?_; intro w2 t_ b_r; have o_k_r := b_k.lt; have l_hB_r : _ ≤ w1.heap.size := hB.size; replace b_k := t_.blk b_k (Nat.ne_of_lt b_k.lt); replace hB := t_.below hB l_hB_r; clear t_; (try simp only [Act.put, List.setIfInBounds_toArray, List.set_cons_zero, List.set_cons_succ]))
    | ((with_reducible refine at_binD 11 ?_); refine L_give (by rfl) (g_ilss 3 _ _ .i64 _ _ false rfl rfl (decide_eq_false h1) ?_); (try simp only [Act.put, List.setIfInBounds_toArray, List.set_cons_zero, List.set_cons_succ]))
    | ((with_reducible refine at_binD 14 ?_); refine L_give (by rfl) (g_igtr 3 _ _ .i64 _ _ true rfl rfl (decide_eq_true h2) ?_); (try simp only [Act.put, List.setIfInBounds_toArray, List.set_cons_zero, List.set_cons_succ]))
    | ((with_reducible refine at_bld 25 ?_); refine L_give (by rfl) (g_bldK0 ?_); (try simp only [Act.put, List.setIfInBounds_toArray, List.set_cons_zero, List.set_cons_succ]))
    | ((with_reducible refine at_storeX 6 23 ?_); refine L_store_all 23 _ _ (w1.heap.size) (kc (zk)) _ 23 rfl rfl b_r (szK _) (kk_len _ _) (one_kc _) ?_; clear b_r; intro w3 t_ b_r; replace b_k := t_.blk b_k (Nat.ne_of_lt o_k_r); replace hB := t_.below hB l_hB_r; clear t_))
  (try simp only [Exit.inBlock, Exit.then])
  exact bodyPost_ret (results_blk_tmp rfl _ (kc (zk)) (.int .i64 (1)) _ rfl rfl b_r Tryd.underlying23 rfl (szK _)) rfl ⟨rfl, hB⟩
set_option maxRecDepth 10000 in
set_option maxHeartbeats 4000000 in
theorem rkey_3 (s : Ky) (n i : Int) (w : World) (h1 : ¬ n < 1) (h2 : ¬ 1024 < n) (h3 : i < 0) : Calls Tryd.prog 11 #[.agg (kc s).toArray, .int .i64 n, .int .i64 i] w fun e w' => e = .returned (.tuple #[.agg (kc zk).toArray, .int .i64 1]) ∧ Below w.heap.size w w' := by
  go_enter Tryd.func11, Tryd.ntmps11
  go_wp2_with (first
    | ((with_reducible refine at_boxD 3 23 ?_); refine L_box 23 _ (kc (s)) rfl ?_; intro w1 t_ b_k; have l_hB_k : w.heap.size ≤ w.heap.size := Nat.le_refl _; have hB : Below w.heap.size w w1 := t_.below (Below.refl _ _) (Nat.le_refl _); clear t_; (try simp only [Act.put, List.setIfInBounds_toArray, List.set_cons_zero, List.set_cons_succ]))
    | ((with_reducible refine at_allocD 6 23 ?_); refine L_alloc 23 (kc (zk)) zeroK ?_; intro w2 t_ b_r; have o_k_r := b_k.lt; have l_hB_r : _ ≤ w1.heap.size := hB.size; replace b_k := t_.blk b_k (Nat.ne_of_lt b_k.lt); replace hB := t_.below hB l_hB_r; clear t_; (try simp only [Act.put, List.setIfInBounds_toArray, List.set_cons_zero, List.set_cons_succ]))
    | ((with_reducible refine at_binD 11 ?_); refine L_give (by rfl) (g_ilss 3 _ _ .i64 _ _ false rfl rfl (decide_eq_false h1) ?_); (try simp only [Act.put, List.setIfInBounds_toArray, List.set_cons_zero, List.set_cons_succ]))
    | ((with_reducible refine at_binD 14 ?_); refine L_give (by rfl) (g_igtr 3 _ _ .i64 _ _ false rfl rfl (decide_eq_false h2) ?_); (try simp only [Act.put, List.setIfInBounds_toArray, List.set_cons_zero, List.set_cons_succ]))
    | ((with_reducible refine at_binD 18 ?_); refine L_give (by rfl) (g_ilss 3 _ _ .i64 _ _ true rfl rfl (decide_eq_true h3) ?_); (try simp only [Act.put, List.setIfInBounds_toArray, List.set_cons_zero, List.set_cons_succ]))
    | ((with_reducible refine at_bld 25 ?_); refine L_give (by rfl) (g_bldK0 ?_); (try simp only [Act.put, List.setIfInBounds_toArray, List.set_cons_zero, List.set_cons_succ]))
    | ((with_reducible refine at_storeX 6 23 ?_); refine L_store_all 23 _ _ (w1.heap.size) (kc (zk)) _ 23 rfl rfl b_r (szK _) (kk_len _ _) (one_kc _) ?_; clear b_r; intro w3 t_ b_r; replace b_k := t_.blk b_k (Nat.ne_of_lt o_k_r); replace hB := t_.below hB l_hB_r; clear t_))
  (try simp only [Exit.inBlock, Exit.then])
  exact bodyPost_ret (results_blk_tmp rfl _ (kc (zk)) (.int .i64 (1)) _ rfl rfl b_r Tryd.underlying23 rfl (szK _)) rfl ⟨rfl, hB⟩
set_option maxRecDepth 10000 in
set_option maxHeartbeats 4000000 in
theorem rkey_4 (s : Ky) (n i : Int) (w : World) (h1 : ¬ n < 1) (h2 : ¬ 1024 < n) (h3 : ¬ i < 0) (h4 : n < i) : Calls Tryd.prog 11 #[.agg (kc s).toArray, .int .i64 n, .int .i64 i] w fun e w' => e = .returned (.tuple #[.agg (kc zk).toArray, .int .i64 1]) ∧ Below w.heap.size w w' := by
  go_enter Tryd.func11, Tryd.ntmps11
  go_wp2_with (first
    | ((with_reducible refine at_boxD 3 23 ?_); refine L_box 23 _ (kc (s)) rfl ?_; intro w1 t_ b_k; have l_hB_k : w.heap.size ≤ w.heap.size := Nat.le_refl _; have hB : Below w.heap.size w w1 := t_.below (Below.refl _ _) (Nat.le_refl _); clear t_; (try simp only [Act.put, List.setIfInBounds_toArray, List.set_cons_zero, List.set_cons_succ]))
    | ((with_reducible refine at_allocD 6 23 ?_); refine L_alloc 23 (kc (zk)) zeroK ?_; intro w2 t_ b_r; have o_k_r := b_k.lt; have l_hB_r : _ ≤ w1.heap.size := hB.size; replace b_k := t_.blk b_k (Nat.ne_of_lt b_k.lt); replace hB := t_.below hB l_hB_r; clear t_; (try simp only [Act.put, List.setIfInBounds_toArray, List.set_cons_zero, List.set_cons_succ]))
    | ((with_reducible refine at_binD 11 ?_); refine L_give (by rfl) (g_ilss 3 _ _ .i64 _ _ false rfl rfl (decide_eq_false h1) ?_); (try simp only [Act.put, List.setIfInBounds_toArray, List.set_cons_zero, List.set_cons_succ]))
    | ((with_reducible refine at_binD 14 ?_); refine L_give (by rfl) (g_igtr 3 _ _ .i64 _ _ false rfl rfl (decide_eq_false h2) ?_); (try simp only [Act.put, List.setIfInBounds_toArray, List.set_cons_zero, List.set_cons_succ]))
    | ((with_reducible refine at_binD 18 ?_); refine L_give (by rfl) (g_ilss 3 _ _ .i64 _ _ false rfl rfl (decide_eq_false h3) ?_); (try simp only [Act.put, List.setIfInBounds_toArray, List.set_cons_zero, List.set_cons_succ]))
    | ((with_reducible refine at_binD 23 ?_); refine L_give (by rfl) (g_igtr 3 _ _ .i64 _ _ true rfl rfl (decide_eq_true h4) ?_); (try simp only [Act.put, List.setIfInBounds_toArray, List.set_cons_zero, List.set_cons_succ]))
    | ((with_reducible refine at_bld 25 ?_); refine L_give (by rfl) (g_bldK0 ?_); (try simp only [Act.put, List.setIfInBounds_toArray, List.set_cons_zero, List.set_cons_succ]))
    | ((with_reducible refine at_storeX 6 23 ?_); refine L_store_all 23 _ _ (w1.heap.size) (kc (zk)) _ 23 rfl rfl b_r (szK _) (kk_len _ _) (one_kc _) ?_; clear b_r; intro w3 t_ b_r; replace b_k := t_.blk b_k (Nat.ne_of_lt o_k_r); replace hB := t_.below hB l_hB_r; clear t_))
  (try simp only [Exit.inBlock, Exit.then])
  exact bodyPost_ret (results_blk_tmp rfl _ (kc (zk)) (.int .i64 (1)) _ rfl rfl b_r Tryd.underlying23 rfl (szK _)) rfl ⟨rfl, hB⟩
set_option maxRecDepth 10000 in
set_option maxHeartbeats 4000000 in
theorem rkey_5 (s : Ky) (n i : Int) (w : World) (L K : Ky) (h1 : ¬ n < 1) (h2 : ¬ 1024 < n) (h3 : ¬ i < 0) (h4 : ¬ n < i) (hL : Shut (tg s ⟨#[99, 104, 97, 105, 110]⟩ = L)) (hK : Shut (wl (n - i).toNat L = K)) : Calls Tryd.prog 11 #[.agg (kc s).toArray, .int .i64 n, .int .i64 i] w fun e w' => e = .returned (.tuple #[.agg (kc K).toArray, .int .i64 0]) ∧ Below w.heap.size w w' := by
  go_enter Tryd.func11, Tryd.ntmps11
  go_wp2_with (first
    | ((with_reducible refine at_boxD 3 23 ?_); refine L_box 23 _ (kc (s)) rfl ?_; intro w1 t_ b_k; have l_hB_k : w.heap.size ≤ w.heap.size := Nat.le_refl _; have hB : Below w.heap.size w w1 := t_.below (Below.refl _ _) (Nat.le_refl _); clear t_; (try simp only [Act.put, List.setIfInBounds_toArray, List.set_cons_zero, List.set_cons_succ]))
    | ((with_reducible refine at_allocD 6 23 ?_); refine L_alloc 23 (kc (zk)) zeroK ?_; intro w2 t_ b_r; have o_k_r := b_k.lt; have l_hB_r : _ ≤ w1.heap.size := hB.size; replace b_k := t_.blk b_k (Nat.ne_of_lt b_k.lt); replace hB := t_.below hB l_hB_r; clear t_; (try simp only [Act.put, List.setIfInBounds_toArray, List.set_cons_zero, List.set_cons_succ]))
    | ((with_reducible refine at_binD 11 ?_); refine L_give (by rfl) (g_ilss 3 _ _ .i64 _ _ false rfl rfl (decide_eq_false h1) ?_); (try simp only [Act.put, List.setIfInBounds_toArray, List.set_cons_zero, List.set_cons_succ]))
    | ((with_reducible refine at_binD 14 ?_); refine L_give (by rfl) (g_igtr 3 _ _ .i64 _ _ false rfl rfl (decide_eq_false h2) ?_); (try simp only [Act.put, List.setIfInBounds_toArray, List.set_cons_zero, List.set_cons_succ]))
    | ((with_reducible refine at_binD 18 ?_); refine L_give (by rfl) (g_ilss 3 _ _ .i64 _ _ false rfl rfl (decide_eq_false h3) ?_); (try simp only [Act.put, List.setIfInBounds_toArray, List.set_cons_zero, List.set_cons_succ]))
    | ((with_reducible refine at_binD 23 ?_); refine L_give (by rfl) (g_igtr 3 _ _ .i64 _ _ false rfl rfl (decide_eq_false h4) ?_); (try simp only [Act.put, List.setIfInBounds_toArray, List.set_cons_zero, List.set_cons_succ]))
    | ((with_reducible refine at_loadD 26 23 ?_); refine L_give (by rfl) (g_load_all 23 _ (w.heap.size) (kc (s)) 23 _ rfl (b_k) Tryd.underlying23 rfl (szK _) ?_); (try simp only [Act.put, List.setIfInBounds_toArray, List.set_cons_zero, List.set_cons_succ]))
    | ((with_reducible refine at_callD 27 ?_); refine L_give (by rfl) (g_call 14 _ _ [.agg (kc (s)).toArray, .string (⟨#[99, 104, 97, 105, 110]⟩)] (kf14 _ _) rfl ((mrof_any s L ⟨#[99, 104, 97, 105, 110]⟩ w2 (by decide) hL).mono ?_)); rintro e w3 ⟨rfl, t_⟩; refine ⟨_, rfl, ?_⟩; replace b_k := b_k.below t_ b_k.lt; replace b_r := b_r.below t_ b_r.lt; replace hB := hB.trans (t_.mono hB.size); clear t_; (try simp only [Act.put, List.setIfInBounds_toArray, List.set_cons_zero, List.set_cons_succ]))
    | ((with_reducible refine at_allocD 8 23 ?_); refine L_alloc 23 (kc (zk)) zeroK ?_; intro w4 t_ b_c; have o_k_c := b_k.lt; have o_r_c := b_r.lt; have l_hB_c : _ ≤ w3.heap.size := hB.size; replace b_k := t_.blk b_k (Nat.ne_of_lt b_k.lt); replace b_r := t_.blk b_r (Nat.ne_of_lt b_r.lt); replace hB := t_.below hB l_hB_c; clear t_; (try simp only [Act.put, List.setIfInBounds_toArray, List.set_cons_zero, List.set_cons_succ]))
    | ((with_reducible refine at_storeX 8 23 ?_); refine L_store_all 23 _ _ (w3.heap.size) (kc (L)) _ 23 rfl rfl b_c (szK _) (kk_len _ _) (one_kc _) ?_; clear b_c; intro w5 t_ b_c; replace b_k := t_.blk b_k (Nat.ne_of_lt o_k_c); replace b_r := t_.blk b_r (Nat.ne_of_lt o_r_c); replace hB := t_.below hB l_hB_c; clear t_))
  go_loopw [9] (fun v wr => ∃ (j : Nat) (x : Int), Shut ((j : Int) + x = n) ∧ i ≤ x ∧ v = .int .i64 x ∧ Blk wr w.heap.size (kc s) 23 ∧ Blk wr (w1.heap.size) (kc zk) 23 ∧ Blk wr (w3.heap.size) (kc (wl j L)) 23 ∧ Below w.heap.size w wr) (fun v _ => (intOf v - i).toNat)
  case atStart => exact ⟨0, n, ⟨by omega⟩, by omega, rfl, b_k, b_r, by rw [wl_zero]; exact b_c, hB⟩
  case round =>
    clear b_k b_r b_c hB
    obtain ⟨j, x, hj, hx, rfl, b_k, b_r, b_c, hB⟩ := hrel
    obtain ⟨X, hX⟩ : ∃ X, wl j L = X := ⟨_, rfl⟩
    rw [hX] at b_c
    by_cases hlt : i < x
    · obtain ⟨Y, hY⟩ : ∃ Y, sm X = Y := ⟨_, rfl⟩
      have HY : Shut (sm X = Y) := ⟨hY⟩
      have HN : Shut (wl (j + 1) L = Y) := ⟨by rw [wl_succ, hX, hY]⟩
      have hs : Shut (IntKind.i64.wrap (x - 1) = x - 1) := ⟨by rw [IntKind.wrap_i64]; have := hj.out; omega⟩
      clear hX hY
      go_wp2_with (first
        | ((with_reducible refine at_binD 31 ?_); refine L_give (by rfl) (g_igtr 3 _ _ .i64 _ _ true rfl rfl (decide_eq_true hlt) ?_); (try simp only [Act.put, List.setIfInBounds_toArray, List.set_cons_zero, List.set_cons_succ]))
        | ((with_reducible refine at_sliceD 34 ?_); refine L_give (by rfl) (g_slK _ (w3.heap.size) rfl ?_); (try simp only [Act.put, List.setIfInBounds_toArray, List.set_cons_zero, List.set_cons_succ]))
        | ((with_reducible refine at_cnv 35 ?_); refine L_give (by rfl) (g_strK _ (w3.heap.size) (X) 23 rfl (b_c) ?_); (try simp only [Act.put, List.setIfInBounds_toArray, List.set_cons_zero, List.set_cons_succ]))
        | ((with_reducible refine at_callD 36 ?_); refine L_give (by rfl) (g_call 21 _ _ [.string (⟨(X).l.toArray⟩)] (kf21 _ _) rfl ((rsm_any X Y wr HY).mono ?_)); rintro e w11 ⟨rfl, t_⟩; refine ⟨_, rfl, ?_⟩; replace b_k := b_k.below t_ b_k.lt; replace b_r := b_r.below t_ b_r.lt; replace b_c := b_c.below t_ b_c.lt; replace hB := hB.trans (t_.mono hB.size); clear t_; (try simp only [Act.put, List.setIfInBounds_toArray, List.set_cons_zero, List.set_cons_succ]))
        | ((with_reducible refine at_storeX 8 23 ?_); refine L_store_all 23 _ _ (w3.heap.size) (kc (Y)) _ 23 rfl rfl b_c (szK _) (kk_len _ _) (one_kc _) ?_; clear b_c; intro w12 t_ b_c; replace b_k := t_.blk b_k (Nat.ne_of_lt o_k_c); replace b_r := t_.blk b_r (Nat.ne_of_lt o_r_c); replace hB := t_.below hB l_hB_c; clear t_)
        | ((with_reducible refine at_binD 33 ?_); refine L_give (by rfl) (g_isub 3 _ _ .i64 _ _ (x - 1) rfl rfl hs.out ?_); (try simp only [Act.put, List.setIfInBounds_toArray, List.set_cons_zero, List.set_cons_succ])))
      refine ⟨⟨j + 1, x - 1, ⟨by have := hj.out; omega⟩, by omega, rfl, b_k, b_r, by rw [HN.out]; exact b_c, hB⟩, by simp [intOf]; omega⟩
    · have hjd : X = K := by rw [← hX, ← hK.out]; congr 1; have := hj.out; omega
      subst hjd
      clear hX
      go_wp2_with (first
        | ((with_reducible refine at_binD 31 ?_); refine L_give (by rfl) (g_igtr 3 _ _ .i64 _ _ false rfl rfl (decide_eq_false hlt) ?_); (try simp only [Act.put, List.setIfInBounds_toArray, List.set_cons_zero, List.set_cons_succ]))
        | ((with_reducible refine at_loadD 37 23 ?_); refine L_give (by rfl) (g_load_all 23 _ (w3.heap.size) (kc (X)) 23 _ rfl (b_c) Tryd.underlying23 rfl (szK _) ?_); (try simp only [Act.put, List.setIfInBounds_toArray, List.set_cons_zero, List.set_cons_succ]))
        | ((with_reducible refine at_storeX 6 23 ?_); refine L_store_all 23 _ _ (w1.heap.size) (kc (X)) _ 23 rfl rfl b_r (szK _) (kk_len _ _) (one_kc _) ?_; clear b_r; intro w21 t_ b_r; replace b_k := t_.blk b_k (Nat.ne_of_lt o_k_r); replace b_c := t_.blk b_c (Nat.ne_of_gt o_r_c); replace hB := t_.below hB l_hB_r; clear t_))
      (try simp only [Exit.inBlock, Exit.then])
      exact bodyPost_ret (results_blk_tmp rfl _ (kc (X)) (.int .i64 (0)) _ rfl rfl b_r Tryd.underlying23 rfl (szK _)) rfl ⟨rfl, hB⟩
theorem rckey_any (s : Ky) (n i : Int) (w : World) (K : Ky) (E : Int) (h : Shut (ky s n i = (K, E))) : Calls Tryd.prog 11 #[.agg (kc s).toArray, .int .i64 n, .int .i64 i] w fun e w' => e = .returned (.tuple #[.agg (kc K).toArray, .int .i64 E]) ∧ Below w.heap.size w w' := by
  have h := h.out
  unfold ky at h
  by_cases h1 : n < 1
  · rw [if_pos (.inl h1)] at h; cases h; exact rkey_1 s n i w h1
  by_cases h2 : 1024 < n
  · rw [if_pos (.inr h2)] at h; cases h; exact rkey_2 s n i w h1 h2
  rw [if_neg (fun h3 => h3.elim h1 h2)] at h
  unfold tl at h
  by_cases h3 : i < 0
  · rw [if_pos (.inl h3)] at h; cases h; exact rkey_3 s n i w h1 h2 h3
  by_cases h4 : n < i
  · rw [if_pos (.inr h4)] at h; cases h; exact rkey_4 s n i w h1 h2 h3 h4
  rw [if_neg (fun h5 => h5.elim h3 h4)] at h
  cases h
  exact rkey_5 s n i w _ _ h1 h2 h3 h4 ⟨rfl⟩ ⟨by rw [show (min (n - i) 4096) = n - i by omega]; rfl⟩
end Go.Proofs.YtcenaklbfdhimaaDoor
