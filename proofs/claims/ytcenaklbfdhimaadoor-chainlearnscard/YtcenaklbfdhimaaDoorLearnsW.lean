/- ChainLearns: the walk. -/
import Derived.Test.YtcenaklbfdhimaaDoorBoolArg
import Derived.WalkKit
import Derived.WalkSpells
import Derived.WalkLawsBesides
namespace Go.Proofs.YtcenaklbfdhimaaDoor.chainLearns
open Go Go.RowKit
set_option linter.unusedVariables false
set_option linter.unusedSimpArgs false

set_option maxRecDepth 10000 in
set_option maxHeartbeats 4000000 in
theorem walk_a (s : Ky) (n : Int) (ao : Option Addr) (c cap : Nat) (bs : Nat → Bool) (w : World) (hbs : LB w ao c bs) (hT : Tabs w) (F q : Int) (L G : Ky) (eF : Shut (n.tmod 40 = F)) (wF : Shut (IntKind.i64.wrap F = F)) (eq : Shut (IntKind.i64.wrap (F + 1) = q)) (hq1 : 1 ≤ q) (hq2 : q ≤ 40) (hG : Shut (ky s q 0 = (G, 0))) (hk : Shut (∀ i, 0 ≤ i → i ≤ q → ky s q i = (wl (q - i).toNat L, 0))) : Calls Tryd.prog 5 #[.agg (kc s).toArray, .int .u8 n, .slice ao c cap] w fun e w' => e = .returned (.bool true) ∧ Below w.heap.size w w' := by
  go_enter Tryd.func5, Tryd.ntmps5
  go_wp2_with (first
    | ((with_reducible refine at_boxD 3 23 ?_); refine L_box 23 _ (kc (s)) rfl ?_; intro w1 t_ b_s; have l_hB_s : w.heap.size ≤ w.heap.size := Nat.le_refl _; have hB : Below w.heap.size w w1 := t_.below (Below.refl _ _) (Nat.le_refl _); clear t_; (try simp only [Act.put, List.setIfInBounds_toArray, List.set_cons_zero, List.set_cons_succ]))
    | ((with_reducible refine at_callD 23 ?_); refine L_give (by rfl) (g_call 9 _ _ [] (kf9 _ _) rfl ((awake_any w1 (hT.on hB)).mono ?_)); rintro e w2 ⟨rfl, t_⟩; refine ⟨_, rfl, ?_⟩; replace b_s := b_s.below t_ b_s.lt; replace hB := hB.trans (t_.mono hB.size); clear t_; (try simp only [Act.put, List.setIfInBounds_toArray, List.set_cons_zero, List.set_cons_succ]))
    | ((with_reducible refine at_binD 26 ?_); refine L_give (by rfl) (g_irem 5 _ _ .u8 _ _ F rfl rfl (by decide) eF.out ?_); (try simp only [Act.put, List.setIfInBounds_toArray, List.set_cons_zero, List.set_cons_succ]))
    | ((with_reducible refine at_cnv 27 ?_); refine L_give (by rfl) (g_cv_5_3 _ _ _ rfl wF.out ?_); (try simp only [Act.put, List.setIfInBounds_toArray, List.set_cons_zero, List.set_cons_succ]))
    | ((with_reducible refine at_binD 28 ?_); refine L_give (by rfl) (g_ia 3 _ _ .i64 _ _ q rfl rfl eq.out ?_); (try simp only [Act.put, List.setIfInBounds_toArray, List.set_cons_zero, List.set_cons_succ]))
    | ((with_reducible refine at_loadD 30 23 ?_); refine L_give (by rfl) (g_load_all 23 _ (w.heap.size) (kc (s)) 23 _ rfl (b_s) Tryd.underlying23 rfl (szK _) ?_); (try simp only [Act.put, List.setIfInBounds_toArray, List.set_cons_zero, List.set_cons_succ]))
    | ((with_reducible refine at_callD 32 ?_); refine L_give (by rfl) (g_call 12 _ _ [.agg (kc (s)).toArray, .int .i64 (q)] (kf12 _ _) rfl ((known_any s q w2 (hT.on hB) G 0 hG).mono ?_)); rintro e w3 ⟨rfl, t_⟩; refine ⟨_, rfl, ?_⟩; replace b_s := b_s.below t_ b_s.lt; replace hB := hB.trans (t_.mono hB.size); clear t_; (try simp only [Act.put, List.setIfInBounds_toArray, List.set_cons_zero, List.set_cons_succ]))
    | ((with_reducible refine at_allocD 8 23 ?_); refine L_alloc 23 (kc (zk)) zeroK ?_; intro w4 t_ b_g; have o_s_g := b_s.lt; have l_hB_g : _ ≤ w3.heap.size := hB.size; replace b_s := t_.blk b_s (Nat.ne_of_lt b_s.lt); replace hB := t_.below hB l_hB_g; clear t_; (try simp only [Act.put, List.setIfInBounds_toArray, List.set_cons_zero, List.set_cons_succ]))
    | ((with_reducible refine at_storeX 8 23 ?_); refine L_store_all 23 _ _ (w3.heap.size) (kc (G)) _ 23 rfl rfl b_g (szK _) (kk_len _ _) (one_kc _) ?_; clear b_g; intro w5 t_ b_g; replace b_s := t_.blk b_s (Nat.ne_of_lt o_s_g); replace hB := t_.below hB l_hB_g; clear t_)
    | ((with_reducible refine at_binD 36 ?_); refine L_give (by rfl) (g_ine 25 _ _ .i64 _ _ false rfl rfl (by decide) ?_); (try simp only [Act.put, List.setIfInBounds_toArray, List.set_cons_zero, List.set_cons_succ]))
    | ((with_reducible refine at_loadD 37 23 ?_); refine L_give (by rfl) (g_load_all 23 _ (w3.heap.size) (kc (G)) 23 _ rfl (b_g) Tryd.underlying23 rfl (szK _) ?_); (try simp only [Act.put, List.setIfInBounds_toArray, List.set_cons_zero, List.set_cons_succ]))
    | ((with_reducible refine at_bld 38 ?_); refine L_give (by rfl) (g_bldM1 _ (G) rfl ?_); (try simp only [Act.put, List.setIfInBounds_toArray, List.set_cons_zero, List.set_cons_succ]))
    | ((with_reducible refine at_allocD 10 34 ?_); refine L_alloc 34 (mc (zk) (0)) zeroM ?_; intro w6 t_ b_m; have o_s_m := b_s.lt; have o_g_m := b_g.lt; have l_hB_m : _ ≤ w5.heap.size := hB.size; replace b_s := t_.blk b_s (Nat.ne_of_lt b_s.lt); replace b_g := t_.blk b_g (Nat.ne_of_lt b_g.lt); replace hB := t_.below hB l_hB_m; clear t_; (try simp only [Act.put, List.setIfInBounds_toArray, List.set_cons_zero, List.set_cons_succ]))
    | ((with_reducible refine at_storeX 10 34 ?_); refine L_store_all 34 _ _ (w5.heap.size) (mc (G) (0)) _ 34 rfl rfl b_m (szM _ _) (mm_len _ _ _ _) (one_mc _ _) ?_; clear b_m; intro w7 t_ b_m; replace b_s := t_.blk b_s (Nat.ne_of_lt o_s_m); replace b_g := t_.blk b_g (Nat.ne_of_lt o_g_m); replace hB := t_.below hB l_hB_m; clear t_))
  clear b_g
  go_loopw [11] (fun v wr => ∃ (x j : Int) (J : Ky), 1 ≤ x ∧ x ≤ q + 1 ∧ 0 ≤ j ∧ j < x ∧ Shut (wl (q - j).toNat L = J) ∧ v = .int .i64 x ∧ Blk wr w.heap.size (kc s) 23 ∧ Blk wr (w5.heap.size) (mc J j) 34 ∧ Below w.heap.size w wr) (fun v _ => (q + 1 - intOf v).toNat)
  case atStart => exact ⟨1, 0, G, by omega, by omega, by omega, by omega, ⟨by have h := hk.out 0 (by omega) (by omega); rw [hG.out] at h; exact ((Prod.mk.inj h).1).symm⟩, rfl, b_s, b_m, hB⟩
  case round =>
    clear b_s b_m hB
    obtain ⟨x, j, J, hx1, hxq, hj0, hjx, hJ, rfl, b_s, b_m, hB⟩ := hrel
    by_cases hlt : x ≤ q
    · have hs : Shut (IntKind.i64.wrap (x + 1) = x + 1) := ⟨wrap_id _ (by omega) (by omega)⟩
      by_cases hc : ((c : Nat) : Int) ≤ x
      · skip
        go_wp2_with (first
          | ((with_reducible refine at_binD 41 ?_); refine L_give (by rfl) (g_ileq 3 _ _ .i64 _ _ true rfl rfl (decide_eq_true hlt) ?_); (try simp only [Act.put, List.setIfInBounds_toArray, List.set_cons_zero, List.set_cons_succ]))
          | ((with_reducible refine at_callD 46 ?_); refine L_give (by rfl) (g_fllen _ _ _ _ rfl ?_); (try simp only [Act.put, List.setIfInBounds_toArray, List.set_cons_zero, List.set_cons_succ]))
          | ((with_reducible refine at_binD 47 ?_); refine L_give (by rfl) (g_igeq 3 _ _ .i64 _ _ true rfl rfl (decide_eq_true hc) ?_); (try simp only [Act.put, List.setIfInBounds_toArray, List.set_cons_zero, List.set_cons_succ]))
          | ((with_reducible refine at_binD 43 ?_); refine L_give (by rfl) (g_ia 3 _ _ .i64 _ _ (x + 1) rfl rfl hs.out ?_); (try simp only [Act.put, List.setIfInBounds_toArray, List.set_cons_zero, List.set_cons_succ])))
        go_roundw
        case rel => exact ⟨x + 1, j, J, by omega, by omega, hj0, by omega, hJ, rfl, b_s, b_m, hB⟩
        case measure => simp [intOf]; omega
      · obtain ⟨k, hk'⟩ : ∃ k : Nat, x = (k : Int) := ⟨x.toNat, by omega⟩
        have hkc : k < c := by omega
        obtain ⟨b, o, rfl, hcell⟩ := (hbs.below hB) k hkc
        have hxk : Shut (x = (k : Int)) := ⟨hk'⟩
        clear hk'
        cases hv : bs k with
        | false =>
          rw [hv] at hcell
          go_wp2_with (first
            | ((with_reducible refine at_binD 41 ?_); refine L_give (by rfl) (g_ileq 3 _ _ .i64 _ _ true rfl rfl (decide_eq_true hlt) ?_); (try simp only [Act.put, List.setIfInBounds_toArray, List.set_cons_zero, List.set_cons_succ]))
            | ((with_reducible refine at_callD 46 ?_); refine L_give (by rfl) (g_fllen _ _ _ _ rfl ?_); (try simp only [Act.put, List.setIfInBounds_toArray, List.set_cons_zero, List.set_cons_succ]))
            | ((with_reducible refine at_binD 47 ?_); refine L_give (by rfl) (g_igeq 3 _ _ .i64 _ _ false rfl rfl (decide_eq_false hc) ?_); (try simp only [Act.put, List.setIfInBounds_toArray, List.set_cons_zero, List.set_cons_succ]))
            | ((with_reducible refine at_ixD 51 ?_); refine L_give (by rfl) (g_ixB _ _ b o c cap k _ rfl rfl hxk.out hkc ?_); (try simp only [Act.put, List.setIfInBounds_toArray, List.set_cons_zero, List.set_cons_succ]))
            | ((with_reducible refine at_loadD 52 4 ?_); refine L_give (by rfl) (g_cell4 _ b (o + k) _ rfl hcell ?_); (try simp only [Act.put, List.setIfInBounds_toArray, List.set_cons_zero, List.set_cons_succ]))
            | ((with_reducible refine at_binD 43 ?_); refine L_give (by rfl) (g_ia 3 _ _ .i64 _ _ (x + 1) rfl rfl hs.out ?_); (try simp only [Act.put, List.setIfInBounds_toArray, List.set_cons_zero, List.set_cons_succ])))
          go_roundw
          case rel => exact ⟨x + 1, j, J, by omega, by omega, hj0, by omega, hJ, rfl, b_s, b_m, hB⟩
          case measure => simp [intOf]; omega
        | true =>
          rw [hv] at hcell
          obtain ⟨X, hX⟩ : ∃ X, wl (q - x).toNat L = X := ⟨_, rfl⟩
          have hKX : Shut (ky s q x = (X, 0)) := ⟨by rw [hk.out x (by omega) (by omega), hX]⟩
          have hLX : Shut (ln J j X x q = ((X, x), 0)) := ⟨ln_ok J j X x q (by omega) (by omega) (by omega) (by omega) (by rw [← hX, ← hJ.out, wl_add]; congr 1; omega)⟩
          have HX : Shut (wl (q - x).toNat L = X) := ⟨hX⟩
          clear hX
          go_wp2_with (first
            | ((with_reducible refine at_binD 41 ?_); refine L_give (by rfl) (g_ileq 3 _ _ .i64 _ _ true rfl rfl (decide_eq_true hlt) ?_); (try simp only [Act.put, List.setIfInBounds_toArray, List.set_cons_zero, List.set_cons_succ]))
            | ((with_reducible refine at_callD 46 ?_); refine L_give (by rfl) (g_fllen _ _ _ _ rfl ?_); (try simp only [Act.put, List.setIfInBounds_toArray, List.set_cons_zero, List.set_cons_succ]))
            | ((with_reducible refine at_binD 47 ?_); refine L_give (by rfl) (g_igeq 3 _ _ .i64 _ _ false rfl rfl (decide_eq_false hc) ?_); (try simp only [Act.put, List.setIfInBounds_toArray, List.set_cons_zero, List.set_cons_succ]))
            | ((with_reducible refine at_ixD 51 ?_); refine L_give (by rfl) (g_ixB _ _ b o c cap k _ rfl rfl hxk.out hkc ?_); (try simp only [Act.put, List.setIfInBounds_toArray, List.set_cons_zero, List.set_cons_succ]))
            | ((with_reducible refine at_loadD 52 4 ?_); refine L_give (by rfl) (g_cell4 _ b (o + k) _ rfl hcell ?_); (try simp only [Act.put, List.setIfInBounds_toArray, List.set_cons_zero, List.set_cons_succ]))
            | ((with_reducible refine at_loadD 56 23 ?_); refine L_give (by rfl) (g_load_all 23 _ (w.heap.size) (kc (s)) 23 _ rfl (b_s) Tryd.underlying23 rfl (szK _) ?_); (try simp only [Act.put, List.setIfInBounds_toArray, List.set_cons_zero, List.set_cons_succ]))
            | ((with_reducible refine at_callD 59 ?_); refine L_give (by rfl) (g_call 10 _ _ [.agg (kc (s)).toArray, .int .i64 (q), .int .i64 (x)] (kf10 _ _) rfl ((ckey_any s q x wr (hT.on hB) X 0 hKX).mono ?_)); rintro e w11 ⟨rfl, t_⟩; refine ⟨_, rfl, ?_⟩; replace b_s := b_s.below t_ b_s.lt; replace b_m := b_m.below t_ b_m.lt; replace hB := hB.trans (t_.mono hB.size); clear t_; (try simp only [Act.put, List.setIfInBounds_toArray, List.set_cons_zero, List.set_cons_succ]))
            | ((with_reducible refine at_allocD 12 23 ?_); refine L_alloc 23 (kc (zk)) zeroK ?_; intro w12 t_ b_k; have o_s_k := b_s.lt; have o_m_k := b_m.lt; have l_hB_k : _ ≤ w11.heap.size := hB.size; replace b_s := t_.blk b_s (Nat.ne_of_lt b_s.lt); replace b_m := t_.blk b_m (Nat.ne_of_lt b_m.lt); replace hB := t_.below hB l_hB_k; clear t_; (try simp only [Act.put, List.setIfInBounds_toArray, List.set_cons_zero, List.set_cons_succ]))
            | ((with_reducible refine at_storeX 12 23 ?_); refine L_store_all 23 _ _ (w11.heap.size) (kc (X)) _ 23 rfl rfl b_k (szK _) (kk_len _ _) (one_kc _) ?_; clear b_k; intro w13 t_ b_k; replace b_s := t_.blk b_s (Nat.ne_of_lt o_s_k); replace b_m := t_.blk b_m (Nat.ne_of_lt o_m_k); replace hB := t_.below hB l_hB_k; clear t_)
            | ((with_reducible refine at_loadD 63 34 ?_); refine L_give (by rfl) (g_load_all 34 _ (w5.heap.size) (mc (J) (j)) 34 _ rfl (b_m) Tryd.underlying34 rfl (szM _ _) ?_); (try simp only [Act.put, List.setIfInBounds_toArray, List.set_cons_zero, List.set_cons_succ]))
            | ((with_reducible refine at_loadD 64 23 ?_); refine L_give (by rfl) (g_load_all 23 _ (w11.heap.size) (kc (X)) 23 _ rfl (b_k) Tryd.underlying23 rfl (szK _) ?_); (try simp only [Act.put, List.setIfInBounds_toArray, List.set_cons_zero, List.set_cons_succ]))
            | ((with_reducible refine at_callD 67 ?_); refine L_give (by rfl) (g_call 17 _ _ [.agg (mc (J) (j)).toArray, .agg (kc (X)).toArray, .int .i64 (x), .int .i64 (q)] (kf17 _ _) rfl ((learn_any J j X x q w13 (hT.on hB) X x 0 (by omega) hLX).mono ?_)); rintro e w14 ⟨rfl, t_⟩; refine ⟨_, rfl, ?_⟩; replace b_s := b_s.below t_ b_s.lt; replace b_m := b_m.below t_ b_m.lt; replace b_k := b_k.below t_ b_k.lt; replace hB := hB.trans (t_.mono hB.size); clear t_; (try simp only [Act.put, List.setIfInBounds_toArray, List.set_cons_zero, List.set_cons_succ]))
            | ((with_reducible refine at_allocD 14 34 ?_); refine L_alloc 34 (mc (zk) (0)) zeroM ?_; intro w15 t_ b_x; have o_s_x := b_s.lt; have o_m_x := b_m.lt; have o_k_x := b_k.lt; have l_hB_x : _ ≤ w14.heap.size := hB.size; replace b_s := t_.blk b_s (Nat.ne_of_lt b_s.lt); replace b_m := t_.blk b_m (Nat.ne_of_lt b_m.lt); replace b_k := t_.blk b_k (Nat.ne_of_lt b_k.lt); replace hB := t_.below hB l_hB_x; clear t_; (try simp only [Act.put, List.setIfInBounds_toArray, List.set_cons_zero, List.set_cons_succ]))
            | ((with_reducible refine at_storeX 14 34 ?_); refine L_store_all 34 _ _ (w14.heap.size) (mc (X) (x)) _ 34 rfl rfl b_x (szM _ _) (mm_len _ _ _ _) (one_mc _ _) ?_; clear b_x; intro w16 t_ b_x; replace b_s := t_.blk b_s (Nat.ne_of_lt o_s_x); replace b_m := t_.blk b_m (Nat.ne_of_lt o_m_x); replace b_k := t_.blk b_k (Nat.ne_of_lt o_k_x); replace hB := t_.below hB l_hB_x; clear t_)
            | ((with_reducible refine at_binD 71 ?_); refine L_give (by rfl) (g_ine 25 _ _ .i64 _ _ false rfl rfl (by decide) ?_); (try simp only [Act.put, List.setIfInBounds_toArray, List.set_cons_zero, List.set_cons_succ]))
            | ((with_reducible refine at_binD 74 ?_); refine L_give (by rfl) (g_ine 25 _ _ .i64 _ _ false rfl rfl (by decide) ?_); (try simp only [Act.put, List.setIfInBounds_toArray, List.set_cons_zero, List.set_cons_succ]))
            | ((with_reducible refine at_loadD 78 3 ?_); refine L_give (by rfl) (g_cell3 _ (w14.heap.size) 32 _ rfl ((b_x).cell 32 _ (mc_at _ _)) ?_); (try simp only [Act.put, List.setIfInBounds_toArray, List.set_cons_zero, List.set_cons_succ]))
            | ((with_reducible refine at_binD 80 ?_); refine L_give (by rfl) (g_ine 3 _ _ .i64 _ _ false rfl rfl (decide_eq_false (fun h => h rfl)) ?_); (try simp only [Act.put, List.setIfInBounds_toArray, List.set_cons_zero, List.set_cons_succ]))
            | ((with_reducible refine at_loadD 84 23 ?_); refine L_give (by rfl) (g_ldK _ (w14.heap.size) _ _ rfl (b_x) ?_); (try simp only [Act.put, List.setIfInBounds_toArray, List.set_cons_zero, List.set_cons_succ]))
            | ((with_reducible refine at_loadD 85 23 ?_); refine L_give (by rfl) (g_load_all 23 _ (w11.heap.size) (kc (X)) 23 _ rfl (b_k) Tryd.underlying23 rfl (szK _) ?_); (try simp only [Act.put, List.setIfInBounds_toArray, List.set_cons_zero, List.set_cons_succ]))
            | ((with_reducible refine at_binD 86 ?_); refine L_give (by rfl) (g_nK _ _ (X) (X) true false rfl rfl (decide_eq_true rfl) rfl ?_); (try simp only [Act.put, List.setIfInBounds_toArray, List.set_cons_zero, List.set_cons_succ]))
            | ((with_reducible refine at_loadD 88 34 ?_); refine L_give (by rfl) (g_load_all 34 _ (w14.heap.size) (mc (X) (x)) 34 _ rfl (b_x) Tryd.underlying34 rfl (szM _ _) ?_); (try simp only [Act.put, List.setIfInBounds_toArray, List.set_cons_zero, List.set_cons_succ]))
            | ((with_reducible refine at_storeX 10 34 ?_); refine L_store_all 34 _ _ (w5.heap.size) (mc (X) (x)) _ 34 rfl rfl b_m (szM _ _) (mm_len _ _ _ _) (one_mc _ _) ?_; clear b_m; intro w17 t_ b_m; replace b_s := t_.blk b_s (Nat.ne_of_lt o_s_m); replace b_k := t_.blk b_k (Nat.ne_of_gt o_m_k); replace b_x := t_.blk b_x (Nat.ne_of_gt o_m_x); replace hB := t_.below hB l_hB_m; clear t_)
            | ((with_reducible refine at_binD 43 ?_); refine L_give (by rfl) (g_ia 3 _ _ .i64 _ _ (x + 1) rfl rfl hs.out ?_); (try simp only [Act.put, List.setIfInBounds_toArray, List.set_cons_zero, List.set_cons_succ])))
          go_roundw
          case rel => exact ⟨x + 1, x, X, by omega, by omega, by omega, by omega, HX, rfl, b_s, b_m, hB⟩
          case measure => simp [intOf]; omega
    · skip
      go_wp2_with (first
        | ((with_reducible refine at_binD 41 ?_); refine L_give (by rfl) (g_ileq 3 _ _ .i64 _ _ false rfl rfl (decide_eq_false hlt) ?_); (try simp only [Act.put, List.setIfInBounds_toArray, List.set_cons_zero, List.set_cons_succ])))
      go_loopw [16] (fun v wr => ∃ y : Int, 0 ≤ y ∧ y ≤ j + 1 ∧ v = .int .i64 y ∧ Blk wr w.heap.size (kc s) 23 ∧ Blk wr (w5.heap.size) (mc J j) 34 ∧ Below w.heap.size w wr) (fun v _ => (j + 1 - intOf v).toNat)
      case atStart => exact ⟨0, by omega, by omega, rfl, b_s, b_m, hB⟩
      case round =>
        clear b_s b_m hB
        obtain ⟨y, hy0, hyj, rfl, b_s, b_m, hB⟩ := hrel
        by_cases hly : y ≤ j
        · have hs : Shut (IntKind.i64.wrap (y + 1) = y + 1) := ⟨wrap_id _ (by omega) (by omega)⟩
          obtain ⟨Y, hY⟩ : ∃ Y, wl (q - y).toNat L = Y := ⟨_, rfl⟩
          have hKY : Shut (ky s q y = (Y, 0)) := ⟨by rw [hk.out y (by omega) (by omega), hY]⟩
          have hTY : Shut (tl J j y = (Y, 0)) := ⟨by rw [tl_ok J j y (by omega) (by omega) (by omega), ← hY, ← hJ.out, wl_add]; congr 2; omega⟩
          clear hY
          go_wp2_with (first
            | ((with_reducible refine at_loadD 91 3 ?_); refine L_give (by rfl) (g_cell3 _ (w5.heap.size) 32 _ rfl ((b_m).cell 32 _ (mc_at _ _)) ?_); (try simp only [Act.put, List.setIfInBounds_toArray, List.set_cons_zero, List.set_cons_succ]))
            | ((with_reducible refine at_binD 92 ?_); refine L_give (by rfl) (g_ileq 3 _ _ .i64 _ _ true rfl rfl (decide_eq_true hly) ?_); (try simp only [Act.put, List.setIfInBounds_toArray, List.set_cons_zero, List.set_cons_succ]))
            | ((with_reducible refine at_loadD 96 23 ?_); refine L_give (by rfl) (g_load_all 23 _ (w.heap.size) (kc (s)) 23 _ rfl (b_s) Tryd.underlying23 rfl (szK _) ?_); (try simp only [Act.put, List.setIfInBounds_toArray, List.set_cons_zero, List.set_cons_succ]))
            | ((with_reducible refine at_callD 99 ?_); refine L_give (by rfl) (g_call 10 _ _ [.agg (kc (s)).toArray, .int .i64 (q), .int .i64 (y)] (kf10 _ _) rfl ((ckey_any s q y wr (hT.on hB) Y 0 hKY).mono ?_)); rintro e w41 ⟨rfl, t_⟩; refine ⟨_, rfl, ?_⟩; replace b_s := b_s.below t_ b_s.lt; replace b_m := b_m.below t_ b_m.lt; replace hB := hB.trans (t_.mono hB.size); clear t_; (try simp only [Act.put, List.setIfInBounds_toArray, List.set_cons_zero, List.set_cons_succ]))
            | ((with_reducible refine at_allocD 17 23 ?_); refine L_alloc 23 (kc (zk)) zeroK ?_; intro w42 t_ b_k; have o_s_k := b_s.lt; have o_m_k := b_m.lt; have l_hB_k : _ ≤ w41.heap.size := hB.size; replace b_s := t_.blk b_s (Nat.ne_of_lt b_s.lt); replace b_m := t_.blk b_m (Nat.ne_of_lt b_m.lt); replace hB := t_.below hB l_hB_k; clear t_; (try simp only [Act.put, List.setIfInBounds_toArray, List.set_cons_zero, List.set_cons_succ]))
            | ((with_reducible refine at_storeX 17 23 ?_); refine L_store_all 23 _ _ (w41.heap.size) (kc (Y)) _ 23 rfl rfl b_k (szK _) (kk_len _ _) (one_kc _) ?_; clear b_k; intro w43 t_ b_k; replace b_s := t_.blk b_s (Nat.ne_of_lt o_s_k); replace b_m := t_.blk b_m (Nat.ne_of_lt o_m_k); replace hB := t_.below hB l_hB_k; clear t_)
            | ((with_reducible refine at_loadD 103 34 ?_); refine L_give (by rfl) (g_load_all 34 _ (w5.heap.size) (mc (J) (j)) 34 _ rfl (b_m) Tryd.underlying34 rfl (szM _ _) ?_); (try simp only [Act.put, List.setIfInBounds_toArray, List.set_cons_zero, List.set_cons_succ]))
            | ((with_reducible refine at_callD 105 ?_); refine L_give (by rfl) (g_call 18 _ _ [.agg (mc (J) (j)).toArray, .int .i64 (y)] (kf18 _ _) rfl ((tell_any J j y w43 (hT.on hB) Y 0 (by omega) hTY).mono ?_)); rintro e w44 ⟨rfl, t_⟩; refine ⟨_, rfl, ?_⟩; replace b_s := b_s.below t_ b_s.lt; replace b_m := b_m.below t_ b_m.lt; replace b_k := b_k.below t_ b_k.lt; replace hB := hB.trans (t_.mono hB.size); clear t_; (try simp only [Act.put, List.setIfInBounds_toArray, List.set_cons_zero, List.set_cons_succ]))
            | ((with_reducible refine at_allocD 19 23 ?_); refine L_alloc 23 (kc (zk)) zeroK ?_; intro w45 t_ b_t; have o_s_t := b_s.lt; have o_m_t := b_m.lt; have o_k_t := b_k.lt; have l_hB_t : _ ≤ w44.heap.size := hB.size; replace b_s := t_.blk b_s (Nat.ne_of_lt b_s.lt); replace b_m := t_.blk b_m (Nat.ne_of_lt b_m.lt); replace b_k := t_.blk b_k (Nat.ne_of_lt b_k.lt); replace hB := t_.below hB l_hB_t; clear t_; (try simp only [Act.put, List.setIfInBounds_toArray, List.set_cons_zero, List.set_cons_succ]))
            | ((with_reducible refine at_storeX 19 23 ?_); refine L_store_all 23 _ _ (w44.heap.size) (kc (Y)) _ 23 rfl rfl b_t (szK _) (kk_len _ _) (one_kc _) ?_; clear b_t; intro w46 t_ b_t; replace b_s := t_.blk b_s (Nat.ne_of_lt o_s_t); replace b_m := t_.blk b_m (Nat.ne_of_lt o_m_t); replace b_k := t_.blk b_k (Nat.ne_of_lt o_k_t); replace hB := t_.below hB l_hB_t; clear t_)
            | ((with_reducible refine at_binD 109 ?_); refine L_give (by rfl) (g_ine 25 _ _ .i64 _ _ false rfl rfl (by decide) ?_); (try simp only [Act.put, List.setIfInBounds_toArray, List.set_cons_zero, List.set_cons_succ]))
            | ((with_reducible refine at_binD 112 ?_); refine L_give (by rfl) (g_ine 25 _ _ .i64 _ _ false rfl rfl (by decide) ?_); (try simp only [Act.put, List.setIfInBounds_toArray, List.set_cons_zero, List.set_cons_succ]))
            | ((with_reducible refine at_loadD 115 23 ?_); refine L_give (by rfl) (g_load_all 23 _ (w44.heap.size) (kc (Y)) 23 _ rfl (b_t) Tryd.underlying23 rfl (szK _) ?_); (try simp only [Act.put, List.setIfInBounds_toArray, List.set_cons_zero, List.set_cons_succ]))
            | ((with_reducible refine at_loadD 116 23 ?_); refine L_give (by rfl) (g_load_all 23 _ (w41.heap.size) (kc (Y)) 23 _ rfl (b_k) Tryd.underlying23 rfl (szK _) ?_); (try simp only [Act.put, List.setIfInBounds_toArray, List.set_cons_zero, List.set_cons_succ]))
            | ((with_reducible refine at_binD 117 ?_); refine L_give (by rfl) (g_nK _ _ (Y) (Y) true false rfl rfl (decide_eq_true rfl) rfl ?_); (try simp only [Act.put, List.setIfInBounds_toArray, List.set_cons_zero, List.set_cons_succ]))
            | ((with_reducible refine at_binD 94 ?_); refine L_give (by rfl) (g_ia 3 _ _ .i64 _ _ (y + 1) rfl rfl hs.out ?_); (try simp only [Act.put, List.setIfInBounds_toArray, List.set_cons_zero, List.set_cons_succ])))
          go_roundw
          case rel => exact ⟨y + 1, by omega, by omega, rfl, b_s, b_m, hB⟩
          case measure => simp [intOf]; omega
        · have hs : Shut (IntKind.i64.wrap (j + 1) = j + 1) := ⟨wrap_id _ (by omega) (by omega)⟩
          have hTZ : Shut (tl J j (j + 1) = (zk, 1)) := ⟨by unfold tl; rw [if_pos (.inr (by omega))]⟩
          go_wp2_with (first
            | ((with_reducible refine at_loadD 91 3 ?_); refine L_give (by rfl) (g_cell3 _ (w5.heap.size) 32 _ rfl ((b_m).cell 32 _ (mc_at _ _)) ?_); (try simp only [Act.put, List.setIfInBounds_toArray, List.set_cons_zero, List.set_cons_succ]))
            | ((with_reducible refine at_binD 92 ?_); refine L_give (by rfl) (g_ileq 3 _ _ .i64 _ _ false rfl rfl (decide_eq_false hly) ?_); (try simp only [Act.put, List.setIfInBounds_toArray, List.set_cons_zero, List.set_cons_succ]))
            | ((with_reducible refine at_loadD 120 34 ?_); refine L_give (by rfl) (g_load_all 34 _ (w5.heap.size) (mc (J) (j)) 34 _ rfl (b_m) Tryd.underlying34 rfl (szM _ _) ?_); (try simp only [Act.put, List.setIfInBounds_toArray, List.set_cons_zero, List.set_cons_succ]))
            | ((with_reducible refine at_loadD 122 3 ?_); refine L_give (by rfl) (g_cell3 _ (w5.heap.size) 32 _ rfl ((b_m).cell 32 _ (mc_at _ _)) ?_); (try simp only [Act.put, List.setIfInBounds_toArray, List.set_cons_zero, List.set_cons_succ]))
            | ((with_reducible refine at_binD 123 ?_); refine L_give (by rfl) (g_ia 3 _ _ .i64 _ _ (j + 1) rfl rfl hs.out ?_); (try simp only [Act.put, List.setIfInBounds_toArray, List.set_cons_zero, List.set_cons_succ]))
            | ((with_reducible refine at_callD 124 ?_); refine L_give (by rfl) (g_call 18 _ _ [.agg (mc (J) (j)).toArray, .int .i64 (j + 1)] (kf18 _ _) rfl ((tell_any J j (j + 1) wr (hT.on hB) zk 1 (by omega) hTZ).mono ?_)); rintro e w51 ⟨rfl, t_⟩; refine ⟨_, rfl, ?_⟩; replace b_s := b_s.below t_ b_s.lt; replace b_m := b_m.below t_ b_m.lt; replace hB := hB.trans (t_.mono hB.size); clear t_; (try simp only [Act.put, List.setIfInBounds_toArray, List.set_cons_zero, List.set_cons_succ]))
            | ((with_reducible refine at_allocD 21 23 ?_); refine L_alloc 23 (kc (zk)) zeroK ?_; intro w52 t_ b_z; have o_s_z := b_s.lt; have o_m_z := b_m.lt; have l_hB_z : _ ≤ w51.heap.size := hB.size; replace b_s := t_.blk b_s (Nat.ne_of_lt b_s.lt); replace b_m := t_.blk b_m (Nat.ne_of_lt b_m.lt); replace hB := t_.below hB l_hB_z; clear t_; (try simp only [Act.put, List.setIfInBounds_toArray, List.set_cons_zero, List.set_cons_succ]))
            | ((with_reducible refine at_storeX 21 23 ?_); refine L_store_all 23 _ _ (w51.heap.size) (kc (zk)) _ 23 rfl rfl b_z (szK _) (kk_len _ _) (one_kc _) ?_; clear b_z; intro w53 t_ b_z; replace b_s := t_.blk b_s (Nat.ne_of_lt o_s_z); replace b_m := t_.blk b_m (Nat.ne_of_lt o_m_z); replace hB := t_.below hB l_hB_z; clear t_)
            | ((with_reducible refine at_binD 128 ?_); refine L_give (by rfl) (g_ieq 25 _ _ .i64 _ _ true rfl rfl (by decide) ?_); (try simp only [Act.put, List.setIfInBounds_toArray, List.set_cons_zero, List.set_cons_succ])))
          go_ret
          exact ⟨rfl, hB⟩
theorem walk (l0 : List UInt8) (h0 : l0.length = 32) (n : Int) (hn : (Lit.int .u8 n).wf = true) (ao : Option Addr) (c cap : Nat) (bs : Nat → Bool) (w : World) (hbs : LB w ao c bs) (hT : Tabs w) : Calls Tryd.prog 5 #[.agg (bc l0).toArray, .int .u8 n, .slice ao c cap] w fun e w' => e = .returned (.bool true) ∧ Below w.heap.size w w' := by
  have bF := rem40 n (in_u8 hn)
  obtain ⟨F, eF⟩ : ∃ F, n.tmod 40 = F := ⟨_, rfl⟩
  rw [eF] at bF
  have g : ∀ x : Int, -9223372036854775808 ≤ x → x ≤ 9223372036854775807 → Shut (IntKind.i64.wrap x = x) := fun x a b => ⟨wrap_id x a b⟩
  obtain ⟨L, hL⟩ : ∃ L, tg ⟨l0, h0⟩ chainW = L := ⟨_, rfl⟩
  obtain ⟨G, hG⟩ : ∃ G, wl (F + 1 - 0).toNat L = G := ⟨_, rfl⟩
  have k1 : ∀ i, 0 ≤ i → i ≤ F + 1 → ky ⟨l0, h0⟩ (F + 1) i = (wl (F + 1 - i).toNat L, 0) := fun i a b => by rw [ky_ok _ _ _ (by omega) (by omega) a b, hL]
  have a1 := k1 0 (by omega) (by omega)
  rw [hG] at a1
  exact walk_a ⟨l0, h0⟩ n ao c cap bs w hbs hT F (F + 1) L G ⟨eF⟩ (g _ (by omega) (by omega)) (g _ (by omega) (by omega)) (by omega) (by omega) ⟨a1⟩ ⟨k1⟩
end Go.Proofs.YtcenaklbfdhimaaDoor.chainLearns
