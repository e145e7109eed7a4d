/- ChainJoins: the walk. -/
import Derived.Test.YtcenaklbfdhimaaDoorLawT
import Derived.WalkKit
import Derived.WalkSpells
import Derived.WalkLawsBesides
namespace Go.Proofs.YtcenaklbfdhimaaDoor.chainJoins
open Go Go.RowKit
set_option linter.unusedVariables false
set_option linter.unusedSimpArgs false

set_option maxRecDepth 10000 in
set_option maxHeartbeats 4000000 in
theorem walk_a (s : Ky) (n m : Int) (w : World) (hT : Tabs w) (F a M b : Int) (L B : Ky) (eF : Shut (n.tmod 40 = F)) (wF : Shut (IntKind.i64.wrap F = F)) (ea : Shut (IntKind.i64.wrap (F + 1) = a)) (eM : Shut (m.tmod 40 = M)) (wM : Shut (IntKind.i64.wrap M = M)) (eb : Shut (IntKind.i64.wrap (M + 1) = b)) (ha0 : 0 ≤ a) (ha1 : a ≤ 40) (h1 : Shut (ky s a a = (B, 0))) (h2 : Shut (ky s b b = (B, 0))) (hk : Shut (∀ i, 0 ≤ i → i ≤ a → ky s a i = (wl (a - i).toNat L, 0))) : Calls Tryd.prog 7 #[.agg (kc s).toArray, .int .u8 n, .int .u8 m] w fun e w' => e = .returned (.bool true) ∧ Below w.heap.size w w' := by
  go_enter Tryd.func7, Tryd.ntmps7
  go_wp2_with (first
    | ((with_reducible refine at_boxD 3 23 ?_); refine L_box 23 _ (kc (s)) rfl ?_; intro w1 t_ b_s; have l_hB_s : w.heap.size ≤ w.heap.size := Nat.le_refl _; have hB : Below w.heap.size w w1 := t_.below (Below.refl _ _) (Nat.le_refl _); clear t_; (try simp only [Act.put, List.setIfInBounds_toArray, List.set_cons_zero, List.set_cons_succ]))
    | ((with_reducible refine at_callD 18 ?_); refine L_give (by rfl) (g_call 9 _ _ [] (kf9 _ _) rfl ((awake_any w1 (hT.on hB)).mono ?_)); rintro e w2 ⟨rfl, t_⟩; refine ⟨_, rfl, ?_⟩; replace b_s := b_s.below t_ b_s.lt; replace hB := hB.trans (t_.mono hB.size); clear t_; (try simp only [Act.put, List.setIfInBounds_toArray, List.set_cons_zero, List.set_cons_succ]))
    | ((with_reducible refine at_binD 21 ?_); refine L_give (by rfl) (g_irem 5 _ _ .u8 _ _ F rfl rfl (by decide) eF.out ?_); (try simp only [Act.put, List.setIfInBounds_toArray, List.set_cons_zero, List.set_cons_succ]))
    | ((with_reducible refine at_cnv 22 ?_); refine L_give (by rfl) (g_cv_5_3 _ _ _ rfl wF.out ?_); (try simp only [Act.put, List.setIfInBounds_toArray, List.set_cons_zero, List.set_cons_succ]))
    | ((with_reducible refine at_binD 23 ?_); refine L_give (by rfl) (g_ia 3 _ _ .i64 _ _ a rfl rfl ea.out ?_); (try simp only [Act.put, List.setIfInBounds_toArray, List.set_cons_zero, List.set_cons_succ]))
    | ((with_reducible refine at_binD 25 ?_); refine L_give (by rfl) (g_irem 5 _ _ .u8 _ _ M rfl rfl (by decide) eM.out ?_); (try simp only [Act.put, List.setIfInBounds_toArray, List.set_cons_zero, List.set_cons_succ]))
    | ((with_reducible refine at_cnv 26 ?_); refine L_give (by rfl) (g_cv_5_3 _ _ _ rfl wM.out ?_); (try simp only [Act.put, List.setIfInBounds_toArray, List.set_cons_zero, List.set_cons_succ]))
    | ((with_reducible refine at_binD 27 ?_); refine L_give (by rfl) (g_ia 3 _ _ .i64 _ _ b rfl rfl eb.out ?_); (try simp only [Act.put, List.setIfInBounds_toArray, List.set_cons_zero, List.set_cons_succ]))
    | ((with_reducible refine at_loadD 29 23 ?_); refine L_give (by rfl) (g_load_all 23 _ (w.heap.size) (kc (s)) 23 _ rfl (b_s) Tryd.underlying23 rfl (szK _) ?_); (try simp only [Act.put, List.setIfInBounds_toArray, List.set_cons_zero, List.set_cons_succ]))
    | ((with_reducible refine at_callD 32 ?_); refine L_give (by rfl) (g_call 10 _ _ [.agg (kc (s)).toArray, .int .i64 (a), .int .i64 (a)] (kf10 _ _) rfl ((ckey_any s a a w2 (hT.on hB) B 0 h1).mono ?_)); rintro e w3 ⟨rfl, t_⟩; refine ⟨_, rfl, ?_⟩; replace b_s := b_s.below t_ b_s.lt; replace hB := hB.trans (t_.mono hB.size); clear t_; (try simp only [Act.put, List.setIfInBounds_toArray, List.set_cons_zero, List.set_cons_succ]))
    | ((with_reducible refine at_allocD 9 23 ?_); refine L_alloc 23 (kc (zk)) zeroK ?_; intro w4 t_ b_x; have o_s_x := b_s.lt; have l_hB_x : _ ≤ w3.heap.size := hB.size; replace b_s := t_.blk b_s (Nat.ne_of_lt b_s.lt); replace hB := t_.below hB l_hB_x; clear t_; (try simp only [Act.put, List.setIfInBounds_toArray, List.set_cons_zero, List.set_cons_succ]))
    | ((with_reducible refine at_storeX 9 23 ?_); refine L_store_all 23 _ _ (w3.heap.size) (kc (B)) _ 23 rfl rfl b_x (szK _) (kk_len _ _) (one_kc _) ?_; clear b_x; intro w5 t_ b_x; replace b_s := t_.blk b_s (Nat.ne_of_lt o_s_x); replace hB := t_.below hB l_hB_x; clear t_)
    | ((with_reducible refine at_loadD 36 23 ?_); refine L_give (by rfl) (g_load_all 23 _ (w.heap.size) (kc (s)) 23 _ rfl (b_s) Tryd.underlying23 rfl (szK _) ?_); (try simp only [Act.put, List.setIfInBounds_toArray, List.set_cons_zero, List.set_cons_succ]))
    | ((with_reducible refine at_callD 39 ?_); refine L_give (by rfl) (g_call 10 _ _ [.agg (kc (s)).toArray, .int .i64 (b), .int .i64 (b)] (kf10 _ _) rfl ((ckey_any s b b w5 (hT.on hB) B 0 h2).mono ?_)); rintro e w6 ⟨rfl, t_⟩; refine ⟨_, rfl, ?_⟩; replace b_s := b_s.below t_ b_s.lt; replace b_x := b_x.below t_ b_x.lt; replace hB := hB.trans (t_.mono hB.size); clear t_; (try simp only [Act.put, List.setIfInBounds_toArray, List.set_cons_zero, List.set_cons_succ]))
    | ((with_reducible refine at_allocD 11 23 ?_); refine L_alloc 23 (kc (zk)) zeroK ?_; intro w7 t_ b_y; have o_s_y := b_s.lt; have o_x_y := b_x.lt; have l_hB_y : _ ≤ w6.heap.size := hB.size; replace b_s := t_.blk b_s (Nat.ne_of_lt b_s.lt); replace b_x := t_.blk b_x (Nat.ne_of_lt b_x.lt); replace hB := t_.below hB l_hB_y; clear t_; (try simp only [Act.put, List.setIfInBounds_toArray, List.set_cons_zero, List.set_cons_succ]))
    | ((with_reducible refine at_storeX 11 23 ?_); refine L_store_all 23 _ _ (w6.heap.size) (kc (B)) _ 23 rfl rfl b_y (szK _) (kk_len _ _) (one_kc _) ?_; clear b_y; intro w8 t_ b_y; replace b_s := t_.blk b_s (Nat.ne_of_lt o_s_y); replace b_x := t_.blk b_x (Nat.ne_of_lt o_x_y); replace hB := t_.below hB l_hB_y; clear t_)
    | ((with_reducible refine at_binD 43 ?_); refine L_give (by rfl) (g_ine 25 _ _ .i64 _ _ false rfl rfl (by decide) ?_); (try simp only [Act.put, List.setIfInBounds_toArray, List.set_cons_zero, List.set_cons_succ]))
    | ((with_reducible refine at_binD 46 ?_); refine L_give (by rfl) (g_ine 25 _ _ .i64 _ _ false rfl rfl (by decide) ?_); (try simp only [Act.put, List.setIfInBounds_toArray, List.set_cons_zero, List.set_cons_succ]))
    | ((with_reducible refine at_loadD 49 23 ?_); refine L_give (by rfl) (g_load_all 23 _ (w3.heap.size) (kc (B)) 23 _ rfl (b_x) Tryd.underlying23 rfl (szK _) ?_); (try simp only [Act.put, List.setIfInBounds_toArray, List.set_cons_zero, List.set_cons_succ]))
    | ((with_reducible refine at_loadD 50 23 ?_); refine L_give (by rfl) (g_load_all 23 _ (w6.heap.size) (kc (B)) 23 _ rfl (b_y) Tryd.underlying23 rfl (szK _) ?_); (try simp only [Act.put, List.setIfInBounds_toArray, List.set_cons_zero, List.set_cons_succ]))
    | ((with_reducible refine at_binD 51 ?_); refine L_give (by rfl) (g_nK _ _ (B) (B) true false rfl rfl (decide_eq_true rfl) rfl ?_); (try simp only [Act.put, List.setIfInBounds_toArray, List.set_cons_zero, List.set_cons_succ])))
  clear b_x b_y
  go_loopw [13] (fun v wr => ∃ x : Int, 0 ≤ x ∧ x ≤ a ∧ v = .int .i64 x ∧ Blk wr w.heap.size (kc s) 23 ∧ Below w.heap.size w wr) (fun v _ => (intOf v).toNat)
  case atStart => exact ⟨a, by omega, by omega, rfl, b_s, hB⟩
  case round =>
    clear b_s hB
    obtain ⟨x, hx0, hxa, rfl, b_s, hB⟩ := hrel
    by_cases hlt : 0 < x
    · obtain ⟨X, hX⟩ : ∃ X, wl (a - x).toNat L = X := ⟨_, rfl⟩
      obtain ⟨Y, hY⟩ : ∃ Y, sm X = Y := ⟨_, rfl⟩
      have HY : Shut (sm X = Y) := ⟨hY⟩
      have k1 : Shut (ky s a x = (X, 0)) := ⟨by rw [hk.out x hx0 hxa, hX]⟩
      have k2 : Shut (ky s a (x - 1) = (Y, 0)) := ⟨by rw [hk.out (x - 1) (by omega) (by omega), show (a - (x - 1)).toNat = (a - x).toNat + 1 by omega, wl_succ, hX, hY]⟩
      have hs : Shut (IntKind.i64.wrap (x - 1) = x - 1) := ⟨wrap_id _ (by omega) (by omega)⟩
      clear hX hY
      go_wp2_with (first
        | ((with_reducible refine at_binD 55 ?_); refine L_give (by rfl) (g_igtr 3 _ _ .i64 _ _ true rfl rfl (decide_eq_true hlt) ?_); (try simp only [Act.put, List.setIfInBounds_toArray, List.set_cons_zero, List.set_cons_succ]))
        | ((with_reducible refine at_loadD 59 23 ?_); refine L_give (by rfl) (g_load_all 23 _ (w.heap.size) (kc (s)) 23 _ rfl (b_s) Tryd.underlying23 rfl (szK _) ?_); (try simp only [Act.put, List.setIfInBounds_toArray, List.set_cons_zero, List.set_cons_succ]))
        | ((with_reducible refine at_callD 62 ?_); refine L_give (by rfl) (g_call 10 _ _ [.agg (kc (s)).toArray, .int .i64 (a), .int .i64 (x)] (kf10 _ _) rfl ((ckey_any s a x wr (hT.on hB) X 0 k1).mono ?_)); rintro e w11 ⟨rfl, t_⟩; refine ⟨_, rfl, ?_⟩; replace b_s := b_s.below t_ b_s.lt; replace hB := hB.trans (t_.mono hB.size); clear t_; (try simp only [Act.put, List.setIfInBounds_toArray, List.set_cons_zero, List.set_cons_succ]))
        | ((with_reducible refine at_allocD 14 23 ?_); refine L_alloc 23 (kc (zk)) zeroK ?_; intro w12 t_ b_p; have o_s_p := b_s.lt; have l_hB_p : _ ≤ w11.heap.size := hB.size; replace b_s := t_.blk b_s (Nat.ne_of_lt b_s.lt); replace hB := t_.below hB l_hB_p; clear t_; (try simp only [Act.put, List.setIfInBounds_toArray, List.set_cons_zero, List.set_cons_succ]))
        | ((with_reducible refine at_storeX 14 23 ?_); refine L_store_all 23 _ _ (w11.heap.size) (kc (X)) _ 23 rfl rfl b_p (szK _) (kk_len _ _) (one_kc _) ?_; clear b_p; intro w13 t_ b_p; replace b_s := t_.blk b_s (Nat.ne_of_lt o_s_p); replace hB := t_.below hB l_hB_p; clear t_)
        | ((with_reducible refine at_loadD 66 23 ?_); refine L_give (by rfl) (g_load_all 23 _ (w.heap.size) (kc (s)) 23 _ rfl (b_s) Tryd.underlying23 rfl (szK _) ?_); (try simp only [Act.put, List.setIfInBounds_toArray, List.set_cons_zero, List.set_cons_succ]))
        | ((with_reducible refine at_binD 69 ?_); refine L_give (by rfl) (g_isub 3 _ _ .i64 _ _ (x - 1) rfl rfl hs.out ?_); (try simp only [Act.put, List.setIfInBounds_toArray, List.set_cons_zero, List.set_cons_succ]))
        | ((with_reducible refine at_callD 70 ?_); refine L_give (by rfl) (g_call 10 _ _ [.agg (kc (s)).toArray, .int .i64 (a), .int .i64 (x - 1)] (kf10 _ _) rfl ((ckey_any s a (x - 1) w13 (hT.on hB) Y 0 k2).mono ?_)); rintro e w14 ⟨rfl, t_⟩; refine ⟨_, rfl, ?_⟩; replace b_s := b_s.below t_ b_s.lt; replace b_p := b_p.below t_ b_p.lt; replace hB := hB.trans (t_.mono hB.size); clear t_; (try simp only [Act.put, List.setIfInBounds_toArray, List.set_cons_zero, List.set_cons_succ]))
        | ((with_reducible refine at_allocD 16 23 ?_); refine L_alloc 23 (kc (zk)) zeroK ?_; intro w15 t_ b_q; have o_s_q := b_s.lt; have o_p_q := b_p.lt; have l_hB_q : _ ≤ w14.heap.size := hB.size; replace b_s := t_.blk b_s (Nat.ne_of_lt b_s.lt); replace b_p := t_.blk b_p (Nat.ne_of_lt b_p.lt); replace hB := t_.below hB l_hB_q; clear t_; (try simp only [Act.put, List.setIfInBounds_toArray, List.set_cons_zero, List.set_cons_succ]))
        | ((with_reducible refine at_storeX 16 23 ?_); refine L_store_all 23 _ _ (w14.heap.size) (kc (Y)) _ 23 rfl rfl b_q (szK _) (kk_len _ _) (one_kc _) ?_; clear b_q; intro w16 t_ b_q; replace b_s := t_.blk b_s (Nat.ne_of_lt o_s_q); replace b_p := t_.blk b_p (Nat.ne_of_lt o_p_q); replace hB := t_.below hB l_hB_q; clear t_)
        | (refine stop_region 13 ?_; intro X hX))
      refine hX.out ?_
      clear hX X
      refine wp_region_fixed (by kernel_rfl) (by kernel_rfl) [.int .i64 (0), .bool false, .bool false, .int .i64 (0), .bool false, .bool false, .bool false, .slice (some ⟨w11.heap.size, 0, none⟩) 32 32, .string (⟨(X).l.toArray⟩), .agg (kc (Y)).toArray, .agg (kc (Y)).toArray, .bool false, .bool false] (by rfl) (fun w' => Below w16.heap.size w16 w') (Below.refl _ _).drew ?_ ?_
      · simp only [fullL, Act.put, List.setIfInBounds_toArray, List.set_cons_succ, List.set_cons_zero]
        refine ⟨?_, ?_, ?_, ?_, ?_, ?_, ?_, ?_, ?_, ?_, ?_, ?_, ?_, trivial⟩
        · exact fun wx hw => gw rfl (g_move _ _ rfl ⟨rfl, hw⟩)
        · exact fun wx hw => gw rfl (g_ine 25 _ _ .i64 _ _ false rfl rfl (by decide) ⟨rfl, hw⟩)
        · exact fun wx hw => gw rfl (g_move _ _ rfl ⟨rfl, hw⟩)
        · exact fun wx hw => gw rfl (g_move _ _ rfl ⟨rfl, hw⟩)
        · exact fun wx hw => gw rfl (g_ine 25 _ _ .i64 _ _ false rfl rfl (by decide) ⟨rfl, hw⟩)
        · exact fun wx hw => gw rfl (g_pickf _ _ _ _ rfl rfl ⟨rfl, hw⟩)
        · exact fun wx hw => gw rfl (g_move _ _ rfl ⟨rfl, hw⟩)
        · exact fun wx hw => gw rfl (g_slK _ (w11.heap.size) rfl ⟨rfl, hw⟩)
        · exact fun wx hw => gw rfl (g_strK _ (w11.heap.size) (X) 23 rfl ((b_p.below hw b_p.lt)) ⟨rfl, hw⟩)
        · exact fun wx hw => gw rfl (g_call 21 _ _ [.string (⟨(X).l.toArray⟩)] (kf21 _ _) rfl (mono_val hw (rsm_any X Y wx HY)))
        · exact fun wx hw => gw rfl (g_load_all 23 _ (w14.heap.size) (kc (Y)) 23 _ rfl ((b_q.below hw b_q.lt)) Tryd.underlying23 rfl (szK _) ⟨rfl, hw⟩)
        · exact fun wx hw => gw rfl (g_nK _ _ (Y) (Y) true false rfl rfl (decide_eq_true rfl) rfl ⟨rfl, hw⟩)
        · exact fun wx hw => gw rfl (g_pickf _ _ _ _ rfl rfl ⟨rfl, hw⟩)
      · simp only [fullL, Act.put, List.setIfInBounds_toArray, List.set_cons_succ, List.set_cons_zero]
        intro w17 t_
        replace b_s := b_s.below t_ b_s.lt
        replace b_p := b_p.below t_ b_p.lt
        replace b_q := b_q.below t_ b_q.lt
        replace hB := hB.trans (t_.mono hB.size)
        clear t_
        go_wp2_with (first
          | ((with_reducible refine at_binD 57 ?_); refine L_give (by rfl) (g_isub 3 _ _ .i64 _ _ (x - 1) rfl rfl hs.out ?_); (try simp only [Act.put, List.setIfInBounds_toArray, List.set_cons_zero, List.set_cons_succ])))
        go_roundw
        case rel => exact ⟨x - 1, by omega, by omega, rfl, b_s, hB⟩
        case measure => simp [intOf]; omega
    · skip
      go_wp2_with (first
        | ((with_reducible refine at_binD 55 ?_); refine L_give (by rfl) (g_igtr 3 _ _ .i64 _ _ false rfl rfl (decide_eq_false hlt) ?_); (try simp only [Act.put, List.setIfInBounds_toArray, List.set_cons_zero, List.set_cons_succ])))
      go_ret
      exact ⟨rfl, hB⟩
theorem walk (l0 : List UInt8) (h0 : l0.length = 32) (n : Int) (hn : (Lit.int .u8 n).wf = true) (m : Int) (hm : (Lit.int .u8 m).wf = true) (w : World) (hT : Tabs w) : Calls Tryd.prog 7 #[.agg (bc l0).toArray, .int .u8 n, .int .u8 m] w fun e w' => e = .returned (.bool true) ∧ Below w.heap.size w w' := by
  have bF := rem40 n (in_u8 hn)
  have bM := rem40 m (in_u8 hm)
  obtain ⟨F, eF⟩ : ∃ F, n.tmod 40 = F := ⟨_, rfl⟩
  obtain ⟨M, eM⟩ : ∃ M, m.tmod 40 = M := ⟨_, rfl⟩
  rw [eF] at bF
  rw [eM] at bM
  have g : ∀ x : Int, -9223372036854775808 ≤ x → x ≤ 9223372036854775807 → Shut (IntKind.i64.wrap x = x) := fun x a b => ⟨wrap_id x a b⟩
  obtain ⟨L, hL⟩ : ∃ L, tg ⟨l0, h0⟩ chainW = L := ⟨_, rfl⟩
  have k1 : ∀ a i, 1 ≤ a → a ≤ 40 → 0 ≤ i → i ≤ a → ky ⟨l0, h0⟩ a i = (wl (a - i).toNat L, 0) := fun a i p q r t => by rw [ky_ok _ _ _ p (by omega) r t, hL]
  have e : ∀ a, 1 ≤ a → a ≤ 40 → ky ⟨l0, h0⟩ a a = (L, 0) := fun a p q => by rw [k1 a a p q (by omega) (by omega), show (a - a).toNat = 0 by omega, wl_zero]
  exact walk_a ⟨l0, h0⟩ n m w hT F (F + 1) M (M + 1) L L ⟨eF⟩ (g _ (by omega) (by omega)) (g _ (by omega) (by omega)) ⟨eM⟩ (g _ (by omega) (by omega)) (g _ (by omega) (by omega)) (by omega) (by omega) ⟨e _ (by omega) (by omega)⟩ ⟨e _ (by omega) (by omega)⟩ ⟨fun i p q => k1 _ i (by omega) (by omega) p q⟩
end Go.Proofs.YtcenaklbfdhimaaDoor.chainJoins
