/- StampTells: the walk. -/
import Derived.Test.YtpeiboehdjhimaaRf4
namespace Go.Proofs.Ytpeiboehdjhimaa.stampTells
open Go Go.RowKit
set_option linter.unusedVariables false
section
variable {a : Act} {w : World} {dst : Option Tmp} {ty yt : TypeId} {pos : String} {aft : Array Edge} {gd : Option (Nat × Bool)} {K : Value → World → Prop}
theorem g_cast (x : Operand) (q r : Int) (hx : a.eval x = .int .i64 q) (hr : IntKind.u64.wrap q = r) (hk : K (.int .u64 r) w) : gives Try.prog ⟨dst, .convert 2 23 x, ty, pos, aft, gd⟩ a w K := by
  refine g_val _ w ?_ hk
  simp only [execOp, hx]
  go_simp
end

set_option maxRecDepth 10000 in
set_option maxHeartbeats 16000000 in
theorem walk11 (a : Int) (b : Int) (n : Int) (m : Int) (q : Int) (w_a : 0 ≤ a ∧ a < 18446744073709551616) (w_b : 0 ≤ b ∧ b < 18446744073709551616) (w_n : In64 n) (w_m : In128 m) (w_q : In128 q) (w : World) (G D mh ml qh ql F c S : Int) (hG : Hid (nr a m = G)) (iG : In128 G) (fG : Few G 200) (fm : Few m 200) (hfi : Hid (decide (-((2 : Int) ^ 127) ≤ G ∧ G < (2 : Int) ^ 127) = true)) (hmh : Hid (m / 18446744073709551616 = mh)) (hml : Hid (m % 18446744073709551616 = ml)) (hqh : Hid (q / 18446744073709551616 = qh)) (hql : Hid (q % 18446744073709551616 = ql)) (hD : Hid (m - q = D)) (jD : In64 D) (hF : Hid (IntKind.i64.wrap (IntKind.u64.wrap (a - b)) = F)) (hc : Hid (IntKind.u64.wrap n = c)) (hS1 : Hid (IntKind.u64.wrap (a + IntKind.u64.wrap n) = S)) (hS2 : Hid (IntKind.u64.wrap (a + c) = S)) :
    Calls Try.prog 3 #[.int .u64 a, .int .u64 b, .int .i64 n, .agg (nl m).toArray, .agg (nl q).toArray] w fun e w' => e = .returned (.bool true) ∧ Below w.heap.size w w' := by
  go_enter Try.func3, Try.ntmps3
  go_wp2_with (first
    | ((with_reducible refine at_boxD 8 25 ?_); refine L_box 25 _ (nl (m)) rfl ?_; intro w1 t_ b_m; have l_m : w.heap.size ≤ w.heap.size := Nat.le_refl _; have hB : Below w.heap.size w w1 := t_.below (Below.refl _ _) (Nat.le_refl _); clear t_)
    | ((with_reducible refine at_boxD 9 25 ?_); refine L_box 25 _ (nl (q)) rfl ?_; intro w2 t_ b_q; have l_q : w.heap.size ≤ w1.heap.size := hB.size; have o_q := b_m.lt; replace b_m := t_.blk b_m (by omega); replace hB := t_.below hB l_q; clear t_))
  refine (awake_any w2).mono ?_
  rintro e w3 ⟨rfl, t_⟩
  replace b_m := b_m.below t_ b_m.lt
  replace b_q := b_q.below t_ b_q.lt
  replace hB := hB.trans (t_.mono hB.size)
  clear t_
  go_wp2_with (first
    | ((with_reducible refine at_loadD 24 25 ?_); refine L_load_all 25 _ (w.heap.size) (nl (m)) 25 _ rfl b_m Try.underlying25 rfl (szN 0) ?_))
  refine (near_ok a m G w3 w_m hG iG).mono ?_
  rintro e w4 ⟨rfl, t_⟩
  replace b_m := b_m.below t_ b_m.lt
  replace b_q := b_q.below t_ b_q.lt
  replace hB := hB.trans (t_.mono hB.size)
  clear t_
  go_wp2_with (first
    | ((with_reducible refine at_allocD 11 25 ?_); refine L_alloc 25 (nl (0)) zeroN ?_; intro w5 t_ b_x; have l_x : w.heap.size ≤ w4.heap.size := hB.size; have o_x := b_q.lt; replace b_m := t_.blk b_m (by omega); replace b_q := t_.blk b_q (by omega); replace hB := t_.below hB l_x; clear t_)
    | ((with_reducible refine at_storeX 11 25 ?_); refine L_store_all 25 _ _ (w4.heap.size) (nl (G)) _ 25 rfl rfl b_x (szN 0) (rfl) (one_nl _) ?_; have b0_x := b_x; clear b_x; intro w6 t_ b_x; replace b_m := t_.blk b_m (by omega); replace b_q := t_.blk b_q (by omega); replace hB := t_.below hB l_x; clear t_ b0_x)
    | ((with_reducible refine at_loadD 30 2 ?_); refine L_cell2 _ (w.heap.size) 0 (nl (m)) 25 (.int .i64 (mh)) rfl b_m (nl0 _ _ hmh.out) ?_)
    | ((with_reducible refine at_loadD 32 22 ?_); refine L_cell22 _ (w.heap.size) 1 (nl (m)) 25 (.int .u64 (ml)) rfl b_m (nl1 _ _ hml.out) ?_))
  refine (from_z m mh ml w6 w_m hmh hml).mono ?_
  rintro e w7 ⟨_, rfl, ⟨s_n33, v_n33, rfl, r_n33⟩, t_⟩
  replace b_m := b_m.below t_ b_m.lt
  replace b_q := b_q.below t_ b_q.lt
  replace b_x := b_x.below t_ b_x.lt
  replace hB := hB.trans (t_.mono hB.size)
  clear t_
  go_wp2_with fail
  refine (rnear_any _ a m G w7 ⟨_, _, rfl, r_n33⟩ w_m hG).mono ?_
  rintro e w8 ⟨_, rfl, ⟨s_n34, v_n34, rfl, r_n34⟩, t_⟩
  replace r_n33 := r_n33.below t_
  replace b_m := b_m.below t_ b_m.lt
  replace b_q := b_q.below t_ b_q.lt
  replace b_x := b_x.below t_ b_x.lt
  replace hB := hB.trans (t_.mono hB.size)
  clear t_
  go_wp2_with (first
    | ((with_reducible refine at_allocD 13 32 ?_); refine L_alloc 32 ([.bool false, .slice none 0 0]) zeroR ?_; intro w9 t_ b_g; have l_g : w.heap.size ≤ w8.heap.size := hB.size; have o_g := b_x.lt; replace r_n33 := r_n33.below t_.toBelow; replace r_n34 := r_n34.below t_.toBelow; replace b_m := t_.blk b_m (by omega); replace b_q := t_.blk b_q (by omega); replace b_x := t_.blk b_x (by omega); replace hB := t_.below hB l_g; clear t_)
    | ((with_reducible refine at_storeX 13 32 ?_); refine L_store_all 32 _ _ (w8.heap.size) ([.bool s_n34, v_n34]) _ 32 rfl rfl b_g (szR) (rfl) (one_rc _ _ r_n34.sl) ?_; have b0_g := b_g; clear b_g; intro w10 t_ b_g; replace r_n33 := r_n33.turn t_ b0_g (by decide); replace r_n34 := r_n34.turn t_ b0_g (by decide); replace b_m := t_.blk b_m (by omega); replace b_q := t_.blk b_q (by omega); replace b_x := t_.blk b_x (by omega); replace hB := t_.below hB l_g; clear t_ b0_g)
    | ((with_reducible refine at_loadD 35 32 ?_); refine L_load_all 32 _ (w8.heap.size) ([.bool s_n34, v_n34]) 32 _ rfl b_g Try.underlying32 rfl (szR) ?_))
  refine (fits_any _ G 127 w10 true ⟨_, _, rfl, r_n34⟩ fG hfi).mono ?_
  rintro e w11 ⟨rfl, t_⟩
  replace r_n33 := r_n33.below t_
  replace r_n34 := r_n34.below t_
  replace b_m := b_m.below t_ b_m.lt
  replace b_q := b_q.below t_ b_q.lt
  replace b_x := b_x.below t_ b_x.lt
  replace b_g := b_g.below t_ b_g.lt
  replace hB := hB.trans (t_.mono hB.size)
  clear t_
  go_wp2_with (first
    | ((with_reducible refine at_loadD 46 32 ?_); refine L_load_all 32 _ (w8.heap.size) ([.bool s_n34, v_n34]) 32 _ rfl b_g Try.underlying32 rfl (szR) ?_))
  refine (wide_any _ G _ _ w11 ⟨_, _, rfl, r_n34⟩ iG rfl rfl).mono ?_
  rintro e w12 ⟨rfl, t_⟩
  replace r_n33 := r_n33.below t_
  replace r_n34 := r_n34.below t_
  replace b_m := b_m.below t_ b_m.lt
  replace b_q := b_q.below t_ b_q.lt
  replace b_x := b_x.below t_ b_x.lt
  replace b_g := b_g.below t_ b_g.lt
  replace hB := hB.trans (t_.mono hB.size)
  clear t_
  go_wp2_with (first
    | ((with_reducible refine at_loadDG 53 ?_); refine L_give (by rfl) (g_load_all 25 _ (w4.heap.size) (nl (G)) 25 _ rfl b_x Try.underlying25 rfl (szN 0) ?_))
    | ((with_reducible refine at_binD 57 ?_); refine L_give (by rfl) (g_neqN _ _ (G) (G) true rfl rfl (decide_eq_true rfl) ?_))
    | ((with_reducible refine at_loadD 60 25 ?_); refine L_load_all 25 _ (w.heap.size) (nl (m)) 25 _ rfl b_m Try.underlying25 rfl (szN 0) ?_)
    | ((with_reducible refine at_loadD 61 25 ?_); refine L_load_all 25 _ (w1.heap.size) (nl (q)) 25 _ rfl b_q Try.underlying25 rfl (szN 0) ?_))
  refine (since_ok m q D w12 w_m w_q hD jD).mono ?_
  rintro e w13 ⟨rfl, t_⟩
  replace r_n33 := r_n33.below t_
  replace r_n34 := r_n34.below t_
  replace b_m := b_m.below t_ b_m.lt
  replace b_q := b_q.below t_ b_q.lt
  replace b_x := b_x.below t_ b_x.lt
  replace b_g := b_g.below t_ b_g.lt
  replace hB := hB.trans (t_.mono hB.size)
  clear t_
  go_wp2_with (first
    | ((with_reducible refine stop_region 12 ?_); intro X1 hX1))
  refine hX1.out ?_
  clear hX1
  refine wp_region_pred (by kernel_rfl) (by kernel_rfl) [.eq (.pointer (some ⟨w.heap.size, 0, none⟩)), .eq (.int .i64 (mh)), .eq (.pointer (some ⟨w.heap.size, 1, none⟩)), .eq (.int .u64 (ml)), .rn (m), .eq (.pointer (some ⟨w1.heap.size, 0, none⟩)), .eq (.int .i64 (qh)), .eq (.pointer (some ⟨w1.heap.size, 1, none⟩)), .eq (.int .u64 (ql)), .rn (q), .eq (.tuple #[.int .i64 (D), .int .i64 (0)]), .eq (.tuple #[.int .i64 (D), .int .i64 (0)]), .eq (.int .i64 (D)), .eq (.int .i64 (0)), .eq (.int .i64 (D)), .eq (.int .i64 (0))] (List.replicate 16 none) (fun wx => Below w13.heap.size w13 wx) ?_ ?_ ?_ ?_
  · exact nobs _ _
  · exact (Below.refl _ _).drew
  · simp only [full, Act.put, List.setIfInBounds_toArray, List.set_cons_succ, List.set_cons_zero, Nat.zero_add, Nat.reduceAdd]
    intro i o ho v wx hC hall
    rcases i with _ | _ | _ | _ | _ | _ | _ | _ | _ | _ | _ | _ | _ | _ | _ | _ | i
    · obtain rfl := Option.some.inj ho
      refine gw rfl (g_field0 _ _ _ rfl ?_)
      exact ⟨own_pd _ rfl rfl, hC, Below.refl _ _⟩
    · obtain rfl := Option.some.inj ho
      have d0 : v 0 = .pointer (some ⟨w.heap.size, 0, none⟩) := hall ⟨0, .data⟩ (by simp) rfl _ rfl
      refine gw rfl (g_cell2 _ (w.heap.size) 0 (nl (m)) 25 _ (show v 0 = _ from d0) (b_m.below hC b_m.lt) (nl0 _ _ hmh.out) ?_)
      exact ⟨own_pd _ rfl rfl, hC, Below.refl _ _⟩
    · obtain rfl := Option.some.inj ho
      refine gw rfl (g_field1 _ _ rfl ?_)
      exact ⟨own_pd _ rfl rfl, hC, Below.refl _ _⟩
    · obtain rfl := Option.some.inj ho
      have d2 : v 2 = .pointer (some ⟨w.heap.size, 1, none⟩) := hall ⟨2, .data⟩ (by simp) rfl _ rfl
      refine gw rfl (g_cell22 _ (w.heap.size) 1 (nl (m)) 25 _ (show v 2 = _ from d2) (b_m.below hC b_m.lt) (nl1 _ _ hml.out) ?_)
      exact ⟨own_pd _ rfl rfl, hC, Below.refl _ _⟩
    · obtain rfl := Option.some.inj ho
      have d1 : v 1 = .int .i64 (mh) := hall ⟨1, .data⟩ (by simp) rfl _ rfl
      have d3 : v 3 = .int .u64 (ml) := hall ⟨3, .data⟩ (by simp) rfl _ rfl
      refine gw rfl (g_call 14 _ _ [.int .i64 (mh), .int .u64 (ml)] (kf14 _ _) (by show ([v 1, v 3] : List Value) = _; rw [d1, d3]; (try rfl)) ((from_z m mh ml wx w_m hmh hml).mono ?_))
      rintro e w' ⟨u_, rfl, hp, hb⟩
      exact ⟨_, rfl, own_pd _ rfl hp, hC.trans (hb.mono hC.size), hb⟩
    · obtain rfl := Option.some.inj ho
      refine gw rfl (g_field0 _ _ _ rfl ?_)
      exact ⟨own_pd _ rfl rfl, hC, Below.refl _ _⟩
    · obtain rfl := Option.some.inj ho
      have d5 : v 5 = .pointer (some ⟨w1.heap.size, 0, none⟩) := hall ⟨5, .data⟩ (by simp) rfl _ rfl
      refine gw rfl (g_cell2 _ (w1.heap.size) 0 (nl (q)) 25 _ (show v 5 = _ from d5) (b_q.below hC b_q.lt) (nl0 _ _ hqh.out) ?_)
      exact ⟨own_pd _ rfl rfl, hC, Below.refl _ _⟩
    · obtain rfl := Option.some.inj ho
      refine gw rfl (g_field1 _ _ rfl ?_)
      exact ⟨own_pd _ rfl rfl, hC, Below.refl _ _⟩
    · obtain rfl := Option.some.inj ho
      have d7 : v 7 = .pointer (some ⟨w1.heap.size, 1, none⟩) := hall ⟨7, .data⟩ (by simp) rfl _ rfl
      refine gw rfl (g_cell22 _ (w1.heap.size) 1 (nl (q)) 25 _ (show v 7 = _ from d7) (b_q.below hC b_q.lt) (nl1 _ _ hql.out) ?_)
      exact ⟨own_pd _ rfl rfl, hC, Below.refl _ _⟩
    · obtain rfl := Option.some.inj ho
      have d6 : v 6 = .int .i64 (qh) := hall ⟨6, .data⟩ (by simp) rfl _ rfl
      have d8 : v 8 = .int .u64 (ql) := hall ⟨8, .data⟩ (by simp) rfl _ rfl
      refine gw rfl (g_call 14 _ _ [.int .i64 (qh), .int .u64 (ql)] (kf14 _ _) (by show ([v 6, v 8] : List Value) = _; rw [d6, d8]; (try rfl)) ((from_z q qh ql wx w_q hqh hql).mono ?_))
      rintro e w' ⟨u_, rfl, hp, hb⟩
      exact ⟨_, rfl, own_pd _ rfl hp, hC.trans (hb.mono hC.size), hb⟩
    · obtain rfl := Option.some.inj ho
      have d4 : RN wx (v 4) (m) := hall ⟨4, .data⟩ (by simp) rfl _ rfl
      have d9 : RN wx (v 9) (q) := hall ⟨9, .data⟩ (by simp) rfl _ rfl
      refine gw rfl (g_call 18 _ _ [v 4, v 9] (kf18 _ _) (rfl) ((rsince_ok _ _ m q D wx d4 d9 w_m w_q hD jD).mono ?_))
      rintro e w' ⟨rfl, hb⟩
      exact ⟨_, rfl, own_pd _ rfl rfl, hC.trans (hb.mono hC.size), hb⟩
    · obtain rfl := Option.some.inj ho
      have d10 : v 10 = .tuple #[.int .i64 (D), .int .i64 (0)] := hall ⟨10, .data⟩ (by simp) rfl _ rfl
      refine gw rfl (g_move _ _ (show v 10 = _ from d10) ?_)
      exact ⟨own_pd _ rfl rfl, hC, Below.refl _ _⟩
    · obtain rfl := Option.some.inj ho
      have d11 : v 11 = .tuple #[.int .i64 (D), .int .i64 (0)] := hall ⟨11, .data⟩ (by simp) rfl _ rfl
      refine gw rfl (g_extract _ _ 0 _ (show v 11 = _ from d11) rfl ?_)
      exact ⟨own_pd _ rfl rfl, hC, Below.refl _ _⟩
    · obtain rfl := Option.some.inj ho
      have d11 : v 11 = .tuple #[.int .i64 (D), .int .i64 (0)] := hall ⟨11, .data⟩ (by simp) rfl _ rfl
      refine gw rfl (g_extract _ _ 1 _ (show v 11 = _ from d11) rfl ?_)
      exact ⟨own_pd _ rfl rfl, hC, Below.refl _ _⟩
    · obtain rfl := Option.some.inj ho
      have d12 : v 12 = .int .i64 (D) := hall ⟨12, .data⟩ (by simp) rfl _ rfl
      refine gw rfl (g_assign _ _ (show v 12 = _ from d12) ?_)
      exact ⟨own_pd _ rfl rfl, hC, Below.refl _ _⟩
    · obtain rfl := Option.some.inj ho
      have d13 : v 13 = .int .i64 (0) := hall ⟨13, .data⟩ (by simp) rfl _ rfl
      refine gw rfl (g_assign _ _ (show v 13 = _ from d13) ?_)
      exact ⟨own_pd _ rfl rfl, hC, Below.refl _ _⟩
    · simp at ho
  · simp only [full, Act.put, List.setIfInBounds_toArray, List.set_cons_succ, List.set_cons_zero, Nat.zero_add, Nat.reduceAdd]
    intro v w14 hC hall
    have d0 : v 0 = .pointer (some ⟨w.heap.size, 0, none⟩) := hall 0 _ (by decide) rfl
    (try rw [d0])
    clear d0
    have d1 : v 1 = .int .i64 (mh) := hall 1 _ (by decide) rfl
    (try rw [d1])
    clear d1
    have d2 : v 2 = .pointer (some ⟨w.heap.size, 1, none⟩) := hall 2 _ (by decide) rfl
    (try rw [d2])
    clear d2
    have d3 : v 3 = .int .u64 (ml) := hall 3 _ (by decide) rfl
    (try rw [d3])
    clear d3
    generalize v 4 = y1_4
    have d5 : v 5 = .pointer (some ⟨w1.heap.size, 0, none⟩) := hall 5 _ (by decide) rfl
    (try rw [d5])
    clear d5
    have d6 : v 6 = .int .i64 (qh) := hall 6 _ (by decide) rfl
    (try rw [d6])
    clear d6
    have d7 : v 7 = .pointer (some ⟨w1.heap.size, 1, none⟩) := hall 7 _ (by decide) rfl
    (try rw [d7])
    clear d7
    have d8 : v 8 = .int .u64 (ql) := hall 8 _ (by decide) rfl
    (try rw [d8])
    clear d8
    generalize v 9 = y1_9
    have d10 : v 10 = .tuple #[.int .i64 (D), .int .i64 (0)] := hall 10 _ (by decide) rfl
    (try rw [d10])
    clear d10
    have d11 : v 11 = .tuple #[.int .i64 (D), .int .i64 (0)] := hall 11 _ (by decide) rfl
    (try rw [d11])
    clear d11
    have d12 : v 12 = .int .i64 (D) := hall 12 _ (by decide) rfl
    (try rw [d12])
    clear d12
    have d13 : v 13 = .int .i64 (0) := hall 13 _ (by decide) rfl
    (try rw [d13])
    clear d13
    have d14 : v 14 = .int .i64 (D) := hall 14 _ (by decide) rfl
    (try rw [d14])
    clear d14
    have d15 : v 15 = .int .i64 (0) := hall 15 _ (by decide) rfl
    (try rw [d15])
    clear d15
    clear hall
    replace r_n33 := r_n33.below hC
    replace r_n34 := r_n34.below hC
    replace b_m := b_m.below hC b_m.lt
    replace b_q := b_q.below hC b_q.lt
    replace b_x := b_x.below hC b_x.lt
    replace b_g := b_g.below hC b_g.lt
    replace hB := hB.trans (hC.mono hB.size)
    clear hC
    go_wp2_with (first
      | ((with_reducible refine stop_region 13 ?_); intro X2 hX2))
    refine hX2.out ?_
    clear hX2
    (try simp only [List.append_eq, List.cons_append, List.nil_append])
    refine wp_region_pred (by kernel_rfl) (by kernel_rfl) [.eq (.int .u64 (a)), .eq (.int .u64 (b)), .eq (.int .i64 (F)), .eq (.int .u64 (a)), .eq (.int .u64 (b)), .eq (.int .i64 (F)), .eq (.bool true), .eq (.bool true), .eq (.int .u64 (a)), .eq (.int .i64 (n)), .eq (.int .u64 (S)), .eq (.int .u64 (a)), .eq (.int .i64 (n)), .eq (.int .u64 (c)), .eq (.int .u64 (S)), .eq (.bool true), .eq (.bool true), .eq (.bool true), .eq (.agg (nl (m)).toArray), .eq (.int .u64 (ml)), .eq (.pointer (some ⟨w.heap.size, 0, none⟩)), .eq (.int .i64 (mh)), .eq (.pointer (some ⟨w.heap.size, 1, none⟩)), .eq (.int .u64 (ml)), .rn (m), .eq (.int .u64 (ml)), .eq (.bool true), .eq (.bool true), .eq (.bool true), .eq (.int .i64 (D)), .eq (.int .i64 (D)), .eq (.bool true), .eq (.bool true), .eq (.bool true), .eq (.int .i64 (0)), .eq (.int .i64 (0)), .eq (.bool true), .eq (.bool true), .eq (.bool true)] (List.replicate 39 none) (fun wx => Below w14.heap.size w14 wx) ?_ ?_ ?_ ?_
    · exact nobs _ _
    · exact (Below.refl _ _).drew
    · simp only [full, Act.put, List.setIfInBounds_toArray, List.set_cons_succ, List.set_cons_zero, Nat.zero_add, Nat.reduceAdd]
      intro i o ho v wx hC hall
      rcases i with _ | _ | _ | _ | _ | _ | _ | _ | _ | _ | _ | _ | _ | _ | _ | _ | _ | _ | _ | _ | _ | _ | _ | _ | _ | _ | _ | _ | _ | _ | _ | _ | _ | _ | _ | _ | _ | _ | _ | i
      · obtain rfl := Option.some.inj ho
        refine gw rfl (g_move _ _ rfl ?_)
        exact ⟨own_pd _ rfl rfl, hC, Below.refl _ _⟩
      · obtain rfl := Option.some.inj ho
        refine gw rfl (g_move _ _ rfl ?_)
        exact ⟨own_pd _ rfl rfl, hC, Below.refl _ _⟩
      · obtain rfl := Option.some.inj ho
        have d0 : v 0 = .int .u64 (a) := hall ⟨0, .data⟩ (by simp) rfl _ rfl
        have d1 : v 1 = .int .u64 (b) := hall ⟨1, .data⟩ (by simp) rfl _ rfl
        refine gw rfl (g_call 19 _ _ [.int .u64 (a), .int .u64 (b)] (kf19 _ _) (by show ([v 0, v 1] : List Value) = _; rw [d0, d1]; (try rfl)) ((diff_any a b F wx hF.out).mono ?_))
        rintro e w' ⟨rfl, rfl⟩
        exact ⟨_, rfl, own_pd _ rfl rfl, hC, Below.refl _ _⟩
      · obtain rfl := Option.some.inj ho
        refine gw rfl (g_move _ _ rfl ?_)
        exact ⟨own_pd _ rfl rfl, hC, Below.refl _ _⟩
      · obtain rfl := Option.some.inj ho
        refine gw rfl (g_move _ _ rfl ?_)
        exact ⟨own_pd _ rfl rfl, hC, Below.refl _ _⟩
      · obtain rfl := Option.some.inj ho
        have d3 : v 3 = .int .u64 (a) := hall ⟨3, .data⟩ (by simp) rfl _ rfl
        have d4 : v 4 = .int .u64 (b) := hall ⟨4, .data⟩ (by simp) rfl _ rfl
        refine gw rfl (g_call 20 _ _ [.int .u64 (a), .int .u64 (b)] (kf20 _ _) (by show ([v 3, v 4] : List Value) = _; rw [d3, d4]; (try rfl)) ((rdiff_any a b F wx hF.out).mono ?_))
        rintro e w' ⟨rfl, rfl⟩
        exact ⟨_, rfl, own_pd _ rfl rfl, hC, Below.refl _ _⟩
      · obtain rfl := Option.some.inj ho
        have d2 : v 2 = .int .i64 (F) := hall ⟨2, .data⟩ (by simp) rfl _ rfl
        have d5 : v 5 = .int .i64 (F) := hall ⟨5, .data⟩ (by simp) rfl _ rfl
        refine gw rfl (g_ieq 2 _ _ .i64 _ _ true (show v 2 = _ from d2) (show v 5 = _ from d5) (decide_eq_true rfl) ?_)
        exact ⟨own_pd _ rfl rfl, hC, Below.refl _ _⟩
      · obtain rfl := Option.some.inj ho
        have d6 : v 6 = .bool true := hall ⟨6, .data⟩ (by simp) rfl _ rfl
        refine gw rfl (g_move _ _ (show v 6 = _ from d6) ?_)
        exact ⟨own_pd _ rfl rfl, hC, Below.refl _ _⟩
      · obtain rfl := Option.some.inj ho
        have dg : v 7 = .bool true := hall ⟨7, .guard⟩ (by simp) rfl _ rfl
        refine gw (by simp [Region.wanted, yielded, dg]) (g_move _ _ rfl ?_)
        exact ⟨own_pd _ rfl rfl, hC, Below.refl _ _⟩
      · obtain rfl := Option.some.inj ho
        have dg : v 7 = .bool true := hall ⟨7, .guard⟩ (by simp) rfl _ rfl
        refine gw (by simp [Region.wanted, yielded, dg]) (g_move _ _ rfl ?_)
        exact ⟨own_pd _ rfl rfl, hC, Below.refl _ _⟩
      · obtain rfl := Option.some.inj ho
        have dg : v 7 = .bool true := hall ⟨7, .guard⟩ (by simp) rfl _ rfl
        have d8 : v 8 = .int .u64 (a) := hall ⟨8, .data⟩ (by simp) rfl _ rfl
        have d9 : v 9 = .int .i64 (n) := hall ⟨9, .data⟩ (by simp) rfl _ rfl
        refine gw (by simp [Region.wanted, yielded, dg]) (g_call 21 _ _ [.int .u64 (a), .int .i64 (n)] (kf21 _ _) (by show ([v 8, v 9] : List Value) = _; rw [d8, d9]; (try rfl)) ((sadd_any a n S wx hS1.out).mono ?_))
        rintro e w' ⟨rfl, rfl⟩
        exact ⟨_, rfl, own_pd _ rfl rfl, hC, Below.refl _ _⟩
      · obtain rfl := Option.some.inj ho
        have dg : v 7 = .bool true := hall ⟨7, .guard⟩ (by simp) rfl _ rfl
        refine gw (by simp [Region.wanted, yielded, dg]) (g_move _ _ rfl ?_)
        exact ⟨own_pd _ rfl rfl, hC, Below.refl _ _⟩
      · obtain rfl := Option.some.inj ho
        have dg : v 7 = .bool true := hall ⟨7, .guard⟩ (by simp) rfl _ rfl
        refine gw (by simp [Region.wanted, yielded, dg]) (g_move _ _ rfl ?_)
        exact ⟨own_pd _ rfl rfl, hC, Below.refl _ _⟩
      · obtain rfl := Option.some.inj ho
        have dg : v 7 = .bool true := hall ⟨7, .guard⟩ (by simp) rfl _ rfl
        have d12 : v 12 = .int .i64 (n) := hall ⟨12, .data⟩ (by simp) rfl _ rfl
        refine gw (by simp [Region.wanted, yielded, dg]) (g_cast _ _ _ (show v 12 = _ from d12) (hc.out) ?_)
        exact ⟨own_pd _ rfl rfl, hC, Below.refl _ _⟩
      · obtain rfl := Option.some.inj ho
        have dg : v 7 = .bool true := hall ⟨7, .guard⟩ (by simp) rfl _ rfl
        have d11 : v 11 = .int .u64 (a) := hall ⟨11, .data⟩ (by simp) rfl _ rfl
        have d13 : v 13 = .int .u64 (c) := hall ⟨13, .data⟩ (by simp) rfl _ rfl
        refine gw (by simp [Region.wanted, yielded, dg]) (g_iadd 23 _ _ .u64 _ _ _ (show v 11 = _ from d11) (show v 13 = _ from d13) (hS2.out) ?_)
        exact ⟨own_pd _ rfl rfl, hC, Below.refl _ _⟩
      · obtain rfl := Option.some.inj ho
        have dg : v 7 = .bool true := hall ⟨7, .guard⟩ (by simp) rfl _ rfl
        have d10 : v 10 = .int .u64 (S) := hall ⟨10, .data⟩ (by simp) rfl _ rfl
        have d14 : v 14 = .int .u64 (S) := hall ⟨14, .data⟩ (by simp) rfl _ rfl
        refine gw (by simp [Region.wanted, yielded, dg]) (g_ieq 23 _ _ .u64 _ _ true (show v 10 = _ from d10) (show v 14 = _ from d14) (decide_eq_true rfl) ?_)
        exact ⟨own_pd _ rfl rfl, hC, Below.refl _ _⟩
      · obtain rfl := Option.some.inj ho
        have d7 : v 7 = .bool true := hall ⟨7, .data⟩ (by simp) rfl _ rfl
        have d15 : v 15 = .bool true := hall ⟨15, .data⟩ (by simp) rfl _ rfl
        refine gw rfl (g_pickt _ _ _ _ (show v 7 = _ from d7) (show v 15 = _ from d15) ?_)
        exact ⟨own_pd _ rfl rfl, hC, Below.refl _ _⟩
      · obtain rfl := Option.some.inj ho
        have d16 : v 16 = .bool true := hall ⟨16, .data⟩ (by simp) rfl _ rfl
        refine gw rfl (g_move _ _ (show v 16 = _ from d16) ?_)
        exact ⟨own_pd _ rfl rfl, hC, Below.refl _ _⟩
      · obtain rfl := Option.some.inj ho
        have dg : v 17 = .bool true := hall ⟨17, .guard⟩ (by simp) rfl _ rfl
        refine gw (by simp [Region.wanted, yielded, dg]) (g_load_all 25 _ (w.heap.size) (nl (m)) 25 _ rfl (b_m.below hC b_m.lt) Try.underlying25 rfl (szN 0) ?_)
        exact ⟨own_pd _ rfl rfl, hC, Below.refl _ _⟩
      · obtain rfl := Option.some.inj ho
        have dg : v 17 = .bool true := hall ⟨17, .guard⟩ (by simp) rfl _ rfl
        have d18 : v 18 = .agg (nl (m)).toArray := hall ⟨18, .data⟩ (by simp) rfl _ rfl
        refine gw (by simp [Region.wanted, yielded, dg]) (g_call 22 _ _ [.agg (nl (m)).toArray] (kf22 _ _) (by show ([v 18] : List Value) = _; rw [d18]; (try rfl)) ((fold_any m ml wx hml.out).mono ?_))
        rintro e w' ⟨rfl, hb⟩
        exact ⟨_, rfl, own_pd _ rfl rfl, hC.trans (hb.mono hC.size), hb⟩
      · obtain rfl := Option.some.inj ho
        have dg : v 17 = .bool true := hall ⟨17, .guard⟩ (by simp) rfl _ rfl
        refine gw (by simp [Region.wanted, yielded, dg]) (g_field0 _ _ _ rfl ?_)
        exact ⟨own_pd _ rfl rfl, hC, Below.refl _ _⟩
      · obtain rfl := Option.some.inj ho
        have dg : v 17 = .bool true := hall ⟨17, .guard⟩ (by simp) rfl _ rfl
        have d20 : v 20 = .pointer (some ⟨w.heap.size, 0, none⟩) := hall ⟨20, .data⟩ (by simp) rfl _ rfl
        refine gw (by simp [Region.wanted, yielded, dg]) (g_cell2 _ (w.heap.size) 0 (nl (m)) 25 _ (show v 20 = _ from d20) (b_m.below hC b_m.lt) (nl0 _ _ hmh.out) ?_)
        exact ⟨own_pd _ rfl rfl, hC, Below.refl _ _⟩
      · obtain rfl := Option.some.inj ho
        have dg : v 17 = .bool true := hall ⟨17, .guard⟩ (by simp) rfl _ rfl
        refine gw (by simp [Region.wanted, yielded, dg]) (g_field1 _ _ rfl ?_)
        exact ⟨own_pd _ rfl rfl, hC, Below.refl _ _⟩
      · obtain rfl := Option.some.inj ho
        have dg : v 17 = .bool true := hall ⟨17, .guard⟩ (by simp) rfl _ rfl
        have d22 : v 22 = .pointer (some ⟨w.heap.size, 1, none⟩) := hall ⟨22, .data⟩ (by simp) rfl _ rfl
        refine gw (by simp [Region.wanted, yielded, dg]) (g_cell22 _ (w.heap.size) 1 (nl (m)) 25 _ (show v 22 = _ from d22) (b_m.below hC b_m.lt) (nl1 _ _ hml.out) ?_)
        exact ⟨own_pd _ rfl rfl, hC, Below.refl _ _⟩
      · obtain rfl := Option.some.inj ho
        have dg : v 17 = .bool true := hall ⟨17, .guard⟩ (by simp) rfl _ rfl
        have d21 : v 21 = .int .i64 (mh) := hall ⟨21, .data⟩ (by simp) rfl _ rfl
        have d23 : v 23 = .int .u64 (ml) := hall ⟨23, .data⟩ (by simp) rfl _ rfl
        refine gw (by simp [Region.wanted, yielded, dg]) (g_call 14 _ _ [.int .i64 (mh), .int .u64 (ml)] (kf14 _ _) (by show ([v 21, v 23] : List Value) = _; rw [d21, d23]; (try rfl)) ((from_z m mh ml wx w_m hmh hml).mono ?_))
        rintro e w' ⟨u_, rfl, hp, hb⟩
        exact ⟨_, rfl, own_pd _ rfl hp, hC.trans (hb.mono hC.size), hb⟩
      · obtain rfl := Option.some.inj ho
        have dg : v 17 = .bool true := hall ⟨17, .guard⟩ (by simp) rfl _ rfl
        have d24 : RN wx (v 24) (m) := hall ⟨24, .data⟩ (by simp) rfl _ rfl
        refine gw (by simp [Region.wanted, yielded, dg]) (g_call 23 _ _ [v 24] (kf23 _ _) (rfl) ((rfold_any _ m ml wx d24 fm hml).mono ?_))
        rintro e w' ⟨rfl, hb⟩
        exact ⟨_, rfl, own_pd _ rfl rfl, hC.trans (hb.mono hC.size), hb⟩
      · obtain rfl := Option.some.inj ho
        have dg : v 17 = .bool true := hall ⟨17, .guard⟩ (by simp) rfl _ rfl
        have d19 : v 19 = .int .u64 (ml) := hall ⟨19, .data⟩ (by simp) rfl _ rfl
        have d25 : v 25 = .int .u64 (ml) := hall ⟨25, .data⟩ (by simp) rfl _ rfl
        refine gw (by simp [Region.wanted, yielded, dg]) (g_ieq 22 _ _ .u64 _ _ true (show v 19 = _ from d19) (show v 25 = _ from d25) (decide_eq_true rfl) ?_)
        exact ⟨own_pd _ rfl rfl, hC, Below.refl _ _⟩
      · obtain rfl := Option.some.inj ho
        have d17 : v 17 = .bool true := hall ⟨17, .data⟩ (by simp) rfl _ rfl
        have d26 : v 26 = .bool true := hall ⟨26, .data⟩ (by simp) rfl _ rfl
        refine gw rfl (g_pickt _ _ _ _ (show v 17 = _ from d17) (show v 26 = _ from d26) ?_)
        exact ⟨own_pd _ rfl rfl, hC, Below.refl _ _⟩
      · obtain rfl := Option.some.inj ho
        have d27 : v 27 = .bool true := hall ⟨27, .data⟩ (by simp) rfl _ rfl
        refine gw rfl (g_move _ _ (show v 27 = _ from d27) ?_)
        exact ⟨own_pd _ rfl rfl, hC, Below.refl _ _⟩
      · obtain rfl := Option.some.inj ho
        have dg : v 28 = .bool true := hall ⟨28, .guard⟩ (by simp) rfl _ rfl
        refine gw (by simp [Region.wanted, yielded, dg]) (g_move _ _ rfl ?_)
        exact ⟨own_pd _ rfl rfl, hC, Below.refl _ _⟩
      · obtain rfl := Option.some.inj ho
        have dg : v 28 = .bool true := hall ⟨28, .guard⟩ (by simp) rfl _ rfl
        refine gw (by simp [Region.wanted, yielded, dg]) (g_move _ _ rfl ?_)
        exact ⟨own_pd _ rfl rfl, hC, Below.refl _ _⟩
      · obtain rfl := Option.some.inj ho
        have dg : v 28 = .bool true := hall ⟨28, .guard⟩ (by simp) rfl _ rfl
        have d29 : v 29 = .int .i64 (D) := hall ⟨29, .data⟩ (by simp) rfl _ rfl
        have d30 : v 30 = .int .i64 (D) := hall ⟨30, .data⟩ (by simp) rfl _ rfl
        refine gw (by simp [Region.wanted, yielded, dg]) (g_ieq 2 _ _ .i64 _ _ true (show v 29 = _ from d29) (show v 30 = _ from d30) (decide_eq_true rfl) ?_)
        exact ⟨own_pd _ rfl rfl, hC, Below.refl _ _⟩
      · obtain rfl := Option.some.inj ho
        have d28 : v 28 = .bool true := hall ⟨28, .data⟩ (by simp) rfl _ rfl
        have d31 : v 31 = .bool true := hall ⟨31, .data⟩ (by simp) rfl _ rfl
        refine gw rfl (g_pickt _ _ _ _ (show v 28 = _ from d28) (show v 31 = _ from d31) ?_)
        exact ⟨own_pd _ rfl rfl, hC, Below.refl _ _⟩
      · obtain rfl := Option.some.inj ho
        have d32 : v 32 = .bool true := hall ⟨32, .data⟩ (by simp) rfl _ rfl
        refine gw rfl (g_move _ _ (show v 32 = _ from d32) ?_)
        exact ⟨own_pd _ rfl rfl, hC, Below.refl _ _⟩
      · obtain rfl := Option.some.inj ho
        have dg : v 33 = .bool true := hall ⟨33, .guard⟩ (by simp) rfl _ rfl
        refine gw (by simp [Region.wanted, yielded, dg]) (g_move _ _ rfl ?_)
        exact ⟨own_pd _ rfl rfl, hC, Below.refl _ _⟩
      · obtain rfl := Option.some.inj ho
        have dg : v 33 = .bool true := hall ⟨33, .guard⟩ (by simp) rfl _ rfl
        refine gw (by simp [Region.wanted, yielded, dg]) (g_move _ _ rfl ?_)
        exact ⟨own_pd _ rfl rfl, hC, Below.refl _ _⟩
      · obtain rfl := Option.some.inj ho
        have dg : v 33 = .bool true := hall ⟨33, .guard⟩ (by simp) rfl _ rfl
        have d34 : v 34 = .int .i64 (0) := hall ⟨34, .data⟩ (by simp) rfl _ rfl
        have d35 : v 35 = .int .i64 (0) := hall ⟨35, .data⟩ (by simp) rfl _ rfl
        refine gw (by simp [Region.wanted, yielded, dg]) (g_ieq 27 _ _ .i64 _ _ true (show v 34 = _ from d34) (show v 35 = _ from d35) (by decide) ?_)
        exact ⟨own_pd _ rfl rfl, hC, Below.refl _ _⟩
      · obtain rfl := Option.some.inj ho
        have d33 : v 33 = .bool true := hall ⟨33, .data⟩ (by simp) rfl _ rfl
        have d36 : v 36 = .bool true := hall ⟨36, .data⟩ (by simp) rfl _ rfl
        refine gw rfl (g_pickt _ _ _ _ (show v 33 = _ from d33) (show v 36 = _ from d36) ?_)
        exact ⟨own_pd _ rfl rfl, hC, Below.refl _ _⟩
      · obtain rfl := Option.some.inj ho
        have d37 : v 37 = .bool true := hall ⟨37, .data⟩ (by simp) rfl _ rfl
        refine gw rfl (g_assign _ _ (show v 37 = _ from d37) ?_)
        exact ⟨own_pd _ rfl rfl, hC, Below.refl _ _⟩
      · simp at ho
    · simp only [full, Act.put, List.setIfInBounds_toArray, List.set_cons_succ, List.set_cons_zero, Nat.zero_add, Nat.reduceAdd]
      intro v w15 hC hall
      have d0 : v 0 = .int .u64 (a) := hall 0 _ (by decide) rfl
      (try rw [d0])
      clear d0
      have d1 : v 1 = .int .u64 (b) := hall 1 _ (by decide) rfl
      (try rw [d1])
      clear d1
      have d2 : v 2 = .int .i64 (F) := hall 2 _ (by decide) rfl
      (try rw [d2])
      clear d2
      have d3 : v 3 = .int .u64 (a) := hall 3 _ (by decide) rfl
      (try rw [d3])
      clear d3
      have d4 : v 4 = .int .u64 (b) := hall 4 _ (by decide) rfl
      (try rw [d4])
      clear d4
      have d5 : v 5 = .int .i64 (F) := hall 5 _ (by decide) rfl
      (try rw [d5])
      clear d5
      have d6 : v 6 = .bool true := hall 6 _ (by decide) rfl
      (try rw [d6])
      clear d6
      have d7 : v 7 = .bool true := hall 7 _ (by decide) rfl
      (try rw [d7])
      clear d7
      have d8 : v 8 = .int .u64 (a) := hall 8 _ (by decide) rfl
      (try rw [d8])
      clear d8
      have d9 : v 9 = .int .i64 (n) := hall 9 _ (by decide) rfl
      (try rw [d9])
      clear d9
      have d10 : v 10 = .int .u64 (S) := hall 10 _ (by decide) rfl
      (try rw [d10])
      clear d10
      have d11 : v 11 = .int .u64 (a) := hall 11 _ (by decide) rfl
      (try rw [d11])
      clear d11
      have d12 : v 12 = .int .i64 (n) := hall 12 _ (by decide) rfl
      (try rw [d12])
      clear d12
      have d13 : v 13 = .int .u64 (c) := hall 13 _ (by decide) rfl
      (try rw [d13])
      clear d13
      have d14 : v 14 = .int .u64 (S) := hall 14 _ (by decide) rfl
      (try rw [d14])
      clear d14
      have d15 : v 15 = .bool true := hall 15 _ (by decide) rfl
      (try rw [d15])
      clear d15
      have d16 : v 16 = .bool true := hall 16 _ (by decide) rfl
      (try rw [d16])
      clear d16
      have d17 : v 17 = .bool true := hall 17 _ (by decide) rfl
      (try rw [d17])
      clear d17
      have d18 : v 18 = .agg (nl (m)).toArray := hall 18 _ (by decide) rfl
      (try rw [d18])
      clear d18
      have d19 : v 19 = .int .u64 (ml) := hall 19 _ (by decide) rfl
      (try rw [d19])
      clear d19
      have d20 : v 20 = .pointer (some ⟨w.heap.size, 0, none⟩) := hall 20 _ (by decide) rfl
      (try rw [d20])
      clear d20
      have d21 : v 21 = .int .i64 (mh) := hall 21 _ (by decide) rfl
      (try rw [d21])
      clear d21
      have d22 : v 22 = .pointer (some ⟨w.heap.size, 1, none⟩) := hall 22 _ (by decide) rfl
      (try rw [d22])
      clear d22
      have d23 : v 23 = .int .u64 (ml) := hall 23 _ (by decide) rfl
      (try rw [d23])
      clear d23
      generalize v 24 = y2_24
      have d25 : v 25 = .int .u64 (ml) := hall 25 _ (by decide) rfl
      (try rw [d25])
      clear d25
      have d26 : v 26 = .bool true := hall 26 _ (by decide) rfl
      (try rw [d26])
      clear d26
      have d27 : v 27 = .bool true := hall 27 _ (by decide) rfl
      (try rw [d27])
      clear d27
      have d28 : v 28 = .bool true := hall 28 _ (by decide) rfl
      (try rw [d28])
      clear d28
      have d29 : v 29 = .int .i64 (D) := hall 29 _ (by decide) rfl
      (try rw [d29])
      clear d29
      have d30 : v 30 = .int .i64 (D) := hall 30 _ (by decide) rfl
      (try rw [d30])
      clear d30
      have d31 : v 31 = .bool true := hall 31 _ (by decide) rfl
      (try rw [d31])
      clear d31
      have d32 : v 32 = .bool true := hall 32 _ (by decide) rfl
      (try rw [d32])
      clear d32
      have d33 : v 33 = .bool true := hall 33 _ (by decide) rfl
      (try rw [d33])
      clear d33
      have d34 : v 34 = .int .i64 (0) := hall 34 _ (by decide) rfl
      (try rw [d34])
      clear d34
      have d35 : v 35 = .int .i64 (0) := hall 35 _ (by decide) rfl
      (try rw [d35])
      clear d35
      have d36 : v 36 = .bool true := hall 36 _ (by decide) rfl
      (try rw [d36])
      clear d36
      have d37 : v 37 = .bool true := hall 37 _ (by decide) rfl
      (try rw [d37])
      clear d37
      have d38 : v 38 = .bool true := hall 38 _ (by decide) rfl
      (try rw [d38])
      clear d38
      clear hall
      replace r_n33 := r_n33.below hC
      replace r_n34 := r_n34.below hC
      replace b_m := b_m.below hC b_m.lt
      replace b_q := b_q.below hC b_q.lt
      replace b_x := b_x.below hC b_x.lt
      replace b_g := b_g.below hC b_g.lt
      replace hB := hB.trans (hC.mono hB.size)
      clear hC
      go_wp2_with fail
      go_ret
      exact ⟨rfl, hB⟩

set_option maxRecDepth 10000 in
set_option maxHeartbeats 16000000 in
theorem walk10 (a : Int) (b : Int) (n : Int) (m : Int) (q : Int) (w_a : 0 ≤ a ∧ a < 18446744073709551616) (w_b : 0 ≤ b ∧ b < 18446744073709551616) (w_n : In64 n) (w_m : In128 m) (w_q : In128 q) (w : World) (G mh ml qh ql F c S : Int) (hG : Hid (nr a m = G)) (iG : In128 G) (fG : Few G 200) (fm : Few m 200) (hfi : Hid (decide (-((2 : Int) ^ 127) ≤ G ∧ G < (2 : Int) ^ 127) = true)) (hmh : Hid (m / 18446744073709551616 = mh)) (hml : Hid (m % 18446744073709551616 = ml)) (hqh : Hid (q / 18446744073709551616 = qh)) (hql : Hid (q % 18446744073709551616 = ql)) (jD : Hid (¬ In64 (m - q))) (hF : Hid (IntKind.i64.wrap (IntKind.u64.wrap (a - b)) = F)) (hc : Hid (IntKind.u64.wrap n = c)) (hS1 : Hid (IntKind.u64.wrap (a + IntKind.u64.wrap n) = S)) (hS2 : Hid (IntKind.u64.wrap (a + c) = S)) :
    Calls Try.prog 3 #[.int .u64 a, .int .u64 b, .int .i64 n, .agg (nl m).toArray, .agg (nl q).toArray] w fun e w' => e = .returned (.bool true) ∧ Below w.heap.size w w' := by
  go_enter Try.func3, Try.ntmps3
  go_wp2_with (first
    | ((with_reducible refine at_boxD 8 25 ?_); refine L_box 25 _ (nl (m)) rfl ?_; intro w1 t_ b_m; have l_m : w.heap.size ≤ w.heap.size := Nat.le_refl _; have hB : Below w.heap.size w w1 := t_.below (Below.refl _ _) (Nat.le_refl _); clear t_)
    | ((with_reducible refine at_boxD 9 25 ?_); refine L_box 25 _ (nl (q)) rfl ?_; intro w2 t_ b_q; have l_q : w.heap.size ≤ w1.heap.size := hB.size; have o_q := b_m.lt; replace b_m := t_.blk b_m (by omega); replace hB := t_.below hB l_q; clear t_))
  refine (awake_any w2).mono ?_
  rintro e w3 ⟨rfl, t_⟩
  replace b_m := b_m.below t_ b_m.lt
  replace b_q := b_q.below t_ b_q.lt
  replace hB := hB.trans (t_.mono hB.size)
  clear t_
  go_wp2_with (first
    | ((with_reducible refine at_loadD 24 25 ?_); refine L_load_all 25 _ (w.heap.size) (nl (m)) 25 _ rfl b_m Try.underlying25 rfl (szN 0) ?_))
  refine (near_ok a m G w3 w_m hG iG).mono ?_
  rintro e w4 ⟨rfl, t_⟩
  replace b_m := b_m.below t_ b_m.lt
  replace b_q := b_q.below t_ b_q.lt
  replace hB := hB.trans (t_.mono hB.size)
  clear t_
  go_wp2_with (first
    | ((with_reducible refine at_allocD 11 25 ?_); refine L_alloc 25 (nl (0)) zeroN ?_; intro w5 t_ b_x; have l_x : w.heap.size ≤ w4.heap.size := hB.size; have o_x := b_q.lt; replace b_m := t_.blk b_m (by omega); replace b_q := t_.blk b_q (by omega); replace hB := t_.below hB l_x; clear t_)
    | ((with_reducible refine at_storeX 11 25 ?_); refine L_store_all 25 _ _ (w4.heap.size) (nl (G)) _ 25 rfl rfl b_x (szN 0) (rfl) (one_nl _) ?_; have b0_x := b_x; clear b_x; intro w6 t_ b_x; replace b_m := t_.blk b_m (by omega); replace b_q := t_.blk b_q (by omega); replace hB := t_.below hB l_x; clear t_ b0_x)
    | ((with_reducible refine at_loadD 30 2 ?_); refine L_cell2 _ (w.heap.size) 0 (nl (m)) 25 (.int .i64 (mh)) rfl b_m (nl0 _ _ hmh.out) ?_)
    | ((with_reducible refine at_loadD 32 22 ?_); refine L_cell22 _ (w.heap.size) 1 (nl (m)) 25 (.int .u64 (ml)) rfl b_m (nl1 _ _ hml.out) ?_))
  refine (from_z m mh ml w6 w_m hmh hml).mono ?_
  rintro e w7 ⟨_, rfl, ⟨s_n33, v_n33, rfl, r_n33⟩, t_⟩
  replace b_m := b_m.below t_ b_m.lt
  replace b_q := b_q.below t_ b_q.lt
  replace b_x := b_x.below t_ b_x.lt
  replace hB := hB.trans (t_.mono hB.size)
  clear t_
  go_wp2_with fail
  refine (rnear_any _ a m G w7 ⟨_, _, rfl, r_n33⟩ w_m hG).mono ?_
  rintro e w8 ⟨_, rfl, ⟨s_n34, v_n34, rfl, r_n34⟩, t_⟩
  replace r_n33 := r_n33.below t_
  replace b_m := b_m.below t_ b_m.lt
  replace b_q := b_q.below t_ b_q.lt
  replace b_x := b_x.below t_ b_x.lt
  replace hB := hB.trans (t_.mono hB.size)
  clear t_
  go_wp2_with (first
    | ((with_reducible refine at_allocD 13 32 ?_); refine L_alloc 32 ([.bool false, .slice none 0 0]) zeroR ?_; intro w9 t_ b_g; have l_g : w.heap.size ≤ w8.heap.size := hB.size; have o_g := b_x.lt; replace r_n33 := r_n33.below t_.toBelow; replace r_n34 := r_n34.below t_.toBelow; replace b_m := t_.blk b_m (by omega); replace b_q := t_.blk b_q (by omega); replace b_x := t_.blk b_x (by omega); replace hB := t_.below hB l_g; clear t_)
    | ((with_reducible refine at_storeX 13 32 ?_); refine L_store_all 32 _ _ (w8.heap.size) ([.bool s_n34, v_n34]) _ 32 rfl rfl b_g (szR) (rfl) (one_rc _ _ r_n34.sl) ?_; have b0_g := b_g; clear b_g; intro w10 t_ b_g; replace r_n33 := r_n33.turn t_ b0_g (by decide); replace r_n34 := r_n34.turn t_ b0_g (by decide); replace b_m := t_.blk b_m (by omega); replace b_q := t_.blk b_q (by omega); replace b_x := t_.blk b_x (by omega); replace hB := t_.below hB l_g; clear t_ b0_g)
    | ((with_reducible refine at_loadD 35 32 ?_); refine L_load_all 32 _ (w8.heap.size) ([.bool s_n34, v_n34]) 32 _ rfl b_g Try.underlying32 rfl (szR) ?_))
  refine (fits_any _ G 127 w10 true ⟨_, _, rfl, r_n34⟩ fG hfi).mono ?_
  rintro e w11 ⟨rfl, t_⟩
  replace r_n33 := r_n33.below t_
  replace r_n34 := r_n34.below t_
  replace b_m := b_m.below t_ b_m.lt
  replace b_q := b_q.below t_ b_q.lt
  replace b_x := b_x.below t_ b_x.lt
  replace b_g := b_g.below t_ b_g.lt
  replace hB := hB.trans (t_.mono hB.size)
  clear t_
  go_wp2_with (first
    | ((with_reducible refine at_loadD 46 32 ?_); refine L_load_all 32 _ (w8.heap.size) ([.bool s_n34, v_n34]) 32 _ rfl b_g Try.underlying32 rfl (szR) ?_))
  refine (wide_any _ G _ _ w11 ⟨_, _, rfl, r_n34⟩ iG rfl rfl).mono ?_
  rintro e w12 ⟨rfl, t_⟩
  replace r_n33 := r_n33.below t_
  replace r_n34 := r_n34.below t_
  replace b_m := b_m.below t_ b_m.lt
  replace b_q := b_q.below t_ b_q.lt
  replace b_x := b_x.below t_ b_x.lt
  replace b_g := b_g.below t_ b_g.lt
  replace hB := hB.trans (t_.mono hB.size)
  clear t_
  go_wp2_with (first
    | ((with_reducible refine at_loadDG 53 ?_); refine L_give (by rfl) (g_load_all 25 _ (w4.heap.size) (nl (G)) 25 _ rfl b_x Try.underlying25 rfl (szN 0) ?_))
    | ((with_reducible refine at_binD 57 ?_); refine L_give (by rfl) (g_neqN _ _ (G) (G) true rfl rfl (decide_eq_true rfl) ?_))
    | ((with_reducible refine at_loadD 60 25 ?_); refine L_load_all 25 _ (w.heap.size) (nl (m)) 25 _ rfl b_m Try.underlying25 rfl (szN 0) ?_)
    | ((with_reducible refine at_loadD 61 25 ?_); refine L_load_all 25 _ (w1.heap.size) (nl (q)) 25 _ rfl b_q Try.underlying25 rfl (szN 0) ?_))
  refine (since_over m q w12 w_m w_q jD.out).mono ?_
  rintro e w13 ⟨rfl, t_⟩
  replace r_n33 := r_n33.below t_
  replace r_n34 := r_n34.below t_
  replace b_m := b_m.below t_ b_m.lt
  replace b_q := b_q.below t_ b_q.lt
  replace b_x := b_x.below t_ b_x.lt
  replace b_g := b_g.below t_ b_g.lt
  replace hB := hB.trans (t_.mono hB.size)
  clear t_
  go_wp2_with (first
    | ((with_reducible refine stop_region 12 ?_); intro X1 hX1))
  refine hX1.out ?_
  clear hX1
  refine wp_region_pred (by kernel_rfl) (by kernel_rfl) [.eq (.pointer (some ⟨w.heap.size, 0, none⟩)), .eq (.int .i64 (mh)), .eq (.pointer (some ⟨w.heap.size, 1, none⟩)), .eq (.int .u64 (ml)), .rn (m), .eq (.pointer (some ⟨w1.heap.size, 0, none⟩)), .eq (.int .i64 (qh)), .eq (.pointer (some ⟨w1.heap.size, 1, none⟩)), .eq (.int .u64 (ql)), .rn (q), .eq (.tuple #[.int .i64 (0), .int .i64 (6)]), .eq (.tuple #[.int .i64 (0), .int .i64 (6)]), .eq (.int .i64 (0)), .eq (.int .i64 (6)), .eq (.int .i64 (0)), .eq (.int .i64 (6))] (List.replicate 16 none) (fun wx => Below w13.heap.size w13 wx) ?_ ?_ ?_ ?_
  · exact nobs _ _
  · exact (Below.refl _ _).drew
  · simp only [full, Act.put, List.setIfInBounds_toArray, List.set_cons_succ, List.set_cons_zero, Nat.zero_add, Nat.reduceAdd]
    intro i o ho v wx hC hall
    rcases i with _ | _ | _ | _ | _ | _ | _ | _ | _ | _ | _ | _ | _ | _ | _ | _ | i
    · obtain rfl := Option.some.inj ho
      refine gw rfl (g_field0 _ _ _ rfl ?_)
      exact ⟨own_pd _ rfl rfl, hC, Below.refl _ _⟩
    · obtain rfl := Option.some.inj ho
      have d0 : v 0 = .pointer (some ⟨w.heap.size, 0, none⟩) := hall ⟨0, .data⟩ (by simp) rfl _ rfl
      refine gw rfl (g_cell2 _ (w.heap.size) 0 (nl (m)) 25 _ (show v 0 = _ from d0) (b_m.below hC b_m.lt) (nl0 _ _ hmh.out) ?_)
      exact ⟨own_pd _ rfl rfl, hC, Below.refl _ _⟩
    · obtain rfl := Option.some.inj ho
      refine gw rfl (g_field1 _ _ rfl ?_)
      exact ⟨own_pd _ rfl rfl, hC, Below.refl _ _⟩
    · obtain rfl := Option.some.inj ho
      have d2 : v 2 = .pointer (some ⟨w.heap.size, 1, none⟩) := hall ⟨2, .data⟩ (by simp) rfl _ rfl
      refine gw rfl (g_cell22 _ (w.heap.size) 1 (nl (m)) 25 _ (show v 2 = _ from d2) (b_m.below hC b_m.lt) (nl1 _ _ hml.out) ?_)
      exact ⟨own_pd _ rfl rfl, hC, Below.refl _ _⟩
    · obtain rfl := Option.some.inj ho
      have d1 : v 1 = .int .i64 (mh) := hall ⟨1, .data⟩ (by simp) rfl _ rfl
      have d3 : v 3 = .int .u64 (ml) := hall ⟨3, .data⟩ (by simp) rfl _ rfl
      refine gw rfl (g_call 14 _ _ [.int .i64 (mh), .int .u64 (ml)] (kf14 _ _) (by show ([v 1, v 3] : List Value) = _; rw [d1, d3]; (try rfl)) ((from_z m mh ml wx w_m hmh hml).mono ?_))
      rintro e w' ⟨u_, rfl, hp, hb⟩
      exact ⟨_, rfl, own_pd _ rfl hp, hC.trans (hb.mono hC.size), hb⟩
    · obtain rfl := Option.some.inj ho
      refine gw rfl (g_field0 _ _ _ rfl ?_)
      exact ⟨own_pd _ rfl rfl, hC, Below.refl _ _⟩
    · obtain rfl := Option.some.inj ho
      have d5 : v 5 = .pointer (some ⟨w1.heap.size, 0, none⟩) := hall ⟨5, .data⟩ (by simp) rfl _ rfl
      refine gw rfl (g_cell2 _ (w1.heap.size) 0 (nl (q)) 25 _ (show v 5 = _ from d5) (b_q.below hC b_q.lt) (nl0 _ _ hqh.out) ?_)
      exact ⟨own_pd _ rfl rfl, hC, Below.refl _ _⟩
    · obtain rfl := Option.some.inj ho
      refine gw rfl (g_field1 _ _ rfl ?_)
      exact ⟨own_pd _ rfl rfl, hC, Below.refl _ _⟩
    · obtain rfl := Option.some.inj ho
      have d7 : v 7 = .pointer (some ⟨w1.heap.size, 1, none⟩) := hall ⟨7, .data⟩ (by simp) rfl _ rfl
      refine gw rfl (g_cell22 _ (w1.heap.size) 1 (nl (q)) 25 _ (show v 7 = _ from d7) (b_q.below hC b_q.lt) (nl1 _ _ hql.out) ?_)
      exact ⟨own_pd _ rfl rfl, hC, Below.refl _ _⟩
    · obtain rfl := Option.some.inj ho
      have d6 : v 6 = .int .i64 (qh) := hall ⟨6, .data⟩ (by simp) rfl _ rfl
      have d8 : v 8 = .int .u64 (ql) := hall ⟨8, .data⟩ (by simp) rfl _ rfl
      refine gw rfl (g_call 14 _ _ [.int .i64 (qh), .int .u64 (ql)] (kf14 _ _) (by show ([v 6, v 8] : List Value) = _; rw [d6, d8]; (try rfl)) ((from_z q qh ql wx w_q hqh hql).mono ?_))
      rintro e w' ⟨u_, rfl, hp, hb⟩
      exact ⟨_, rfl, own_pd _ rfl hp, hC.trans (hb.mono hC.size), hb⟩
    · obtain rfl := Option.some.inj ho
      have d4 : RN wx (v 4) (m) := hall ⟨4, .data⟩ (by simp) rfl _ rfl
      have d9 : RN wx (v 9) (q) := hall ⟨9, .data⟩ (by simp) rfl _ rfl
      refine gw rfl (g_call 18 _ _ [v 4, v 9] (kf18 _ _) (rfl) ((rsince_over _ _ m q wx d4 d9 w_m w_q jD.out).mono ?_))
      rintro e w' ⟨rfl, hb⟩
      exact ⟨_, rfl, own_pd _ rfl rfl, hC.trans (hb.mono hC.size), hb⟩
    · obtain rfl := Option.some.inj ho
      have d10 : v 10 = .tuple #[.int .i64 (0), .int .i64 (6)] := hall ⟨10, .data⟩ (by simp) rfl _ rfl
      refine gw rfl (g_move _ _ (show v 10 = _ from d10) ?_)
      exact ⟨own_pd _ rfl rfl, hC, Below.refl _ _⟩
    · obtain rfl := Option.some.inj ho
      have d11 : v 11 = .tuple #[.int .i64 (0), .int .i64 (6)] := hall ⟨11, .data⟩ (by simp) rfl _ rfl
      refine gw rfl (g_extract _ _ 0 _ (show v 11 = _ from d11) rfl ?_)
      exact ⟨own_pd _ rfl rfl, hC, Below.refl _ _⟩
    · obtain rfl := Option.some.inj ho
      have d11 : v 11 = .tuple #[.int .i64 (0), .int .i64 (6)] := hall ⟨11, .data⟩ (by simp) rfl _ rfl
      refine gw rfl (g_extract _ _ 1 _ (show v 11 = _ from d11) rfl ?_)
      exact ⟨own_pd _ rfl rfl, hC, Below.refl _ _⟩
    · obtain rfl := Option.some.inj ho
      have d12 : v 12 = .int .i64 (0) := hall ⟨12, .data⟩ (by simp) rfl _ rfl
      refine gw rfl (g_assign _ _ (show v 12 = _ from d12) ?_)
      exact ⟨own_pd _ rfl rfl, hC, Below.refl _ _⟩
    · obtain rfl := Option.some.inj ho
      have d13 : v 13 = .int .i64 (6) := hall ⟨13, .data⟩ (by simp) rfl _ rfl
      refine gw rfl (g_assign _ _ (show v 13 = _ from d13) ?_)
      exact ⟨own_pd _ rfl rfl, hC, Below.refl _ _⟩
    · simp at ho
  · simp only [full, Act.put, List.setIfInBounds_toArray, List.set_cons_succ, List.set_cons_zero, Nat.zero_add, Nat.reduceAdd]
    intro v w14 hC hall
    have d0 : v 0 = .pointer (some ⟨w.heap.size, 0, none⟩) := hall 0 _ (by decide) rfl
    (try rw [d0])
    clear d0
    have d1 : v 1 = .int .i64 (mh) := hall 1 _ (by decide) rfl
    (try rw [d1])
    clear d1
    have d2 : v 2 = .pointer (some ⟨w.heap.size, 1, none⟩) := hall 2 _ (by decide) rfl
    (try rw [d2])
    clear d2
    have d3 : v 3 = .int .u64 (ml) := hall 3 _ (by decide) rfl
    (try rw [d3])
    clear d3
    generalize v 4 = y1_4
    have d5 : v 5 = .pointer (some ⟨w1.heap.size, 0, none⟩) := hall 5 _ (by decide) rfl
    (try rw [d5])
    clear d5
    have d6 : v 6 = .int .i64 (qh) := hall 6 _ (by decide) rfl
    (try rw [d6])
    clear d6
    have d7 : v 7 = .pointer (some ⟨w1.heap.size, 1, none⟩) := hall 7 _ (by decide) rfl
    (try rw [d7])
    clear d7
    have d8 : v 8 = .int .u64 (ql) := hall 8 _ (by decide) rfl
    (try rw [d8])
    clear d8
    generalize v 9 = y1_9
    have d10 : v 10 = .tuple #[.int .i64 (0), .int .i64 (6)] := hall 10 _ (by decide) rfl
    (try rw [d10])
    clear d10
    have d11 : v 11 = .tuple #[.int .i64 (0), .int .i64 (6)] := hall 11 _ (by decide) rfl
    (try rw [d11])
    clear d11
    have d12 : v 12 = .int .i64 (0) := hall 12 _ (by decide) rfl
    (try rw [d12])
    clear d12
    have d13 : v 13 = .int .i64 (6) := hall 13 _ (by decide) rfl
    (try rw [d13])
    clear d13
    have d14 : v 14 = .int .i64 (0) := hall 14 _ (by decide) rfl
    (try rw [d14])
    clear d14
    have d15 : v 15 = .int .i64 (6) := hall 15 _ (by decide) rfl
    (try rw [d15])
    clear d15
    clear hall
    replace r_n33 := r_n33.below hC
    replace r_n34 := r_n34.below hC
    replace b_m := b_m.below hC b_m.lt
    replace b_q := b_q.below hC b_q.lt
    replace b_x := b_x.below hC b_x.lt
    replace b_g := b_g.below hC b_g.lt
    replace hB := hB.trans (hC.mono hB.size)
    clear hC
    go_wp2_with (first
      | ((with_reducible refine stop_region 13 ?_); intro X2 hX2))
    refine hX2.out ?_
    clear hX2
    (try simp only [List.append_eq, List.cons_append, List.nil_append])
    refine wp_region_pred (by kernel_rfl) (by kernel_rfl) [.eq (.int .u64 (a)), .eq (.int .u64 (b)), .eq (.int .i64 (F)), .eq (.int .u64 (a)), .eq (.int .u64 (b)), .eq (.int .i64 (F)), .eq (.bool true), .eq (.bool true), .eq (.int .u64 (a)), .eq (.int .i64 (n)), .eq (.int .u64 (S)), .eq (.int .u64 (a)), .eq (.int .i64 (n)), .eq (.int .u64 (c)), .eq (.int .u64 (S)), .eq (.bool true), .eq (.bool true), .eq (.bool true), .eq (.agg (nl (m)).toArray), .eq (.int .u64 (ml)), .eq (.pointer (some ⟨w.heap.size, 0, none⟩)), .eq (.int .i64 (mh)), .eq (.pointer (some ⟨w.heap.size, 1, none⟩)), .eq (.int .u64 (ml)), .rn (m), .eq (.int .u64 (ml)), .eq (.bool true), .eq (.bool true), .eq (.bool true), .eq (.int .i64 (0)), .eq (.int .i64 (0)), .eq (.bool true), .eq (.bool true), .eq (.bool true), .eq (.int .i64 (6)), .eq (.int .i64 (6)), .eq (.bool true), .eq (.bool true), .eq (.bool true)] (List.replicate 39 none) (fun wx => Below w14.heap.size w14 wx) ?_ ?_ ?_ ?_
    · exact nobs _ _
    · exact (Below.refl _ _).drew
    · simp only [full, Act.put, List.setIfInBounds_toArray, List.set_cons_succ, List.set_cons_zero, Nat.zero_add, Nat.reduceAdd]
      intro i o ho v wx hC hall
      rcases i with _ | _ | _ | _ | _ | _ | _ | _ | _ | _ | _ | _ | _ | _ | _ | _ | _ | _ | _ | _ | _ | _ | _ | _ | _ | _ | _ | _ | _ | _ | _ | _ | _ | _ | _ | _ | _ | _ | _ | i
      · obtain rfl := Option.some.inj ho
        refine gw rfl (g_move _ _ rfl ?_)
        exact ⟨own_pd _ rfl rfl, hC, Below.refl _ _⟩
      · obtain rfl := Option.some.inj ho
        refine gw rfl (g_move _ _ rfl ?_)
        exact ⟨own_pd _ rfl rfl, hC, Below.refl _ _⟩
      · obtain rfl := Option.some.inj ho
        have d0 : v 0 = .int .u64 (a) := hall ⟨0, .data⟩ (by simp) rfl _ rfl
        have d1 : v 1 = .int .u64 (b) := hall ⟨1, .data⟩ (by simp) rfl _ rfl
        refine gw rfl (g_call 19 _ _ [.int .u64 (a), .int .u64 (b)] (kf19 _ _) (by show ([v 0, v 1] : List Value) = _; rw [d0, d1]; (try rfl)) ((diff_any a b F wx hF.out).mono ?_))
        rintro e w' ⟨rfl, rfl⟩
        exact ⟨_, rfl, own_pd _ rfl rfl, hC, Below.refl _ _⟩
      · obtain rfl := Option.some.inj ho
        refine gw rfl (g_move _ _ rfl ?_)
        exact ⟨own_pd _ rfl rfl, hC, Below.refl _ _⟩
      · obtain rfl := Option.some.inj ho
        refine gw rfl (g_move _ _ rfl ?_)
        exact ⟨own_pd _ rfl rfl, hC, Below.refl _ _⟩
      · obtain rfl := Option.some.inj ho
        have d3 : v 3 = .int .u64 (a) := hall ⟨3, .data⟩ (by simp) rfl _ rfl
        have d4 : v 4 = .int .u64 (b) := hall ⟨4, .data⟩ (by simp) rfl _ rfl
        refine gw rfl (g_call 20 _ _ [.int .u64 (a), .int .u64 (b)] (kf20 _ _) (by show ([v 3, v 4] : List Value) = _; rw [d3, d4]; (try rfl)) ((rdiff_any a b F wx hF.out).mono ?_))
        rintro e w' ⟨rfl, rfl⟩
        exact ⟨_, rfl, own_pd _ rfl rfl, hC, Below.refl _ _⟩
      · obtain rfl := Option.some.inj ho
        have d2 : v 2 = .int .i64 (F) := hall ⟨2, .data⟩ (by simp) rfl _ rfl
        have d5 : v 5 = .int .i64 (F) := hall ⟨5, .data⟩ (by simp) rfl _ rfl
        refine gw rfl (g_ieq 2 _ _ .i64 _ _ true (show v 2 = _ from d2) (show v 5 = _ from d5) (decide_eq_true rfl) ?_)
        exact ⟨own_pd _ rfl rfl, hC, Below.refl _ _⟩
      · obtain rfl := Option.some.inj ho
        have d6 : v 6 = .bool true := hall ⟨6, .data⟩ (by simp) rfl _ rfl
        refine gw rfl (g_move _ _ (show v 6 = _ from d6) ?_)
        exact ⟨own_pd _ rfl rfl, hC, Below.refl _ _⟩
      · obtain rfl := Option.some.inj ho
        have dg : v 7 = .bool true := hall ⟨7, .guard⟩ (by simp) rfl _ rfl
        refine gw (by simp [Region.wanted, yielded, dg]) (g_move _ _ rfl ?_)
        exact ⟨own_pd _ rfl rfl, hC, Below.refl _ _⟩
      · obtain rfl := Option.some.inj ho
        have dg : v 7 = .bool true := hall ⟨7, .guard⟩ (by simp) rfl _ rfl
        refine gw (by simp [Region.wanted, yielded, dg]) (g_move _ _ rfl ?_)
        exact ⟨own_pd _ rfl rfl, hC, Below.refl _ _⟩
      · obtain rfl := Option.some.inj ho
        have dg : v 7 = .bool true := hall ⟨7, .guard⟩ (by simp) rfl _ rfl
        have d8 : v 8 = .int .u64 (a) := hall ⟨8, .data⟩ (by simp) rfl _ rfl
        have d9 : v 9 = .int .i64 (n) := hall ⟨9, .data⟩ (by simp) rfl _ rfl
        refine gw (by simp [Region.wanted, yielded, dg]) (g_call 21 _ _ [.int .u64 (a), .int .i64 (n)] (kf21 _ _) (by show ([v 8, v 9] : List Value) = _; rw [d8, d9]; (try rfl)) ((sadd_any a n S wx hS1.out).mono ?_))
        rintro e w' ⟨rfl, rfl⟩
        exact ⟨_, rfl, own_pd _ rfl rfl, hC, Below.refl _ _⟩
      · obtain rfl := Option.some.inj ho
        have dg : v 7 = .bool true := hall ⟨7, .guard⟩ (by simp) rfl _ rfl
        refine gw (by simp [Region.wanted, yielded, dg]) (g_move _ _ rfl ?_)
        exact ⟨own_pd _ rfl rfl, hC, Below.refl _ _⟩
      · obtain rfl := Option.some.inj ho
        have dg : v 7 = .bool true := hall ⟨7, .guard⟩ (by simp) rfl _ rfl
        refine gw (by simp [Region.wanted, yielded, dg]) (g_move _ _ rfl ?_)
        exact ⟨own_pd _ rfl rfl, hC, Below.refl _ _⟩
      · obtain rfl := Option.some.inj ho
        have dg : v 7 = .bool true := hall ⟨7, .guard⟩ (by simp) rfl _ rfl
        have d12 : v 12 = .int .i64 (n) := hall ⟨12, .data⟩ (by simp) rfl _ rfl
        refine gw (by simp [Region.wanted, yielded, dg]) (g_cast _ _ _ (show v 12 = _ from d12) (hc.out) ?_)
        exact ⟨own_pd _ rfl rfl, hC, Below.refl _ _⟩
      · obtain rfl := Option.some.inj ho
        have dg : v 7 = .bool true := hall ⟨7, .guard⟩ (by simp) rfl _ rfl
        have d11 : v 11 = .int .u64 (a) := hall ⟨11, .data⟩ (by simp) rfl _ rfl
        have d13 : v 13 = .int .u64 (c) := hall ⟨13, .data⟩ (by simp) rfl _ rfl
        refine gw (by simp [Region.wanted, yielded, dg]) (g_iadd 23 _ _ .u64 _ _ _ (show v 11 = _ from d11) (show v 13 = _ from d13) (hS2.out) ?_)
        exact ⟨own_pd _ rfl rfl, hC, Below.refl _ _⟩
      · obtain rfl := Option.some.inj ho
        have dg : v 7 = .bool true := hall ⟨7, .guard⟩ (by simp) rfl _ rfl
        have d10 : v 10 = .int .u64 (S) := hall ⟨10, .data⟩ (by simp) rfl _ rfl
        have d14 : v 14 = .int .u64 (S) := hall ⟨14, .data⟩ (by simp) rfl _ rfl
        refine gw (by simp [Region.wanted, yielded, dg]) (g_ieq 23 _ _ .u64 _ _ true (show v 10 = _ from d10) (show v 14 = _ from d14) (decide_eq_true rfl) ?_)
        exact ⟨own_pd _ rfl rfl, hC, Below.refl _ _⟩
      · obtain rfl := Option.some.inj ho
        have d7 : v 7 = .bool true := hall ⟨7, .data⟩ (by simp) rfl _ rfl
        have d15 : v 15 = .bool true := hall ⟨15, .data⟩ (by simp) rfl _ rfl
        refine gw rfl (g_pickt _ _ _ _ (show v 7 = _ from d7) (show v 15 = _ from d15) ?_)
        exact ⟨own_pd _ rfl rfl, hC, Below.refl _ _⟩
      · obtain rfl := Option.some.inj ho
        have d16 : v 16 = .bool true := hall ⟨16, .data⟩ (by simp) rfl _ rfl
        refine gw rfl (g_move _ _ (show v 16 = _ from d16) ?_)
        exact ⟨own_pd _ rfl rfl, hC, Below.refl _ _⟩
      · obtain rfl := Option.some.inj ho
        have dg : v 17 = .bool true := hall ⟨17, .guard⟩ (by simp) rfl _ rfl
        refine gw (by simp [Region.wanted, yielded, dg]) (g_load_all 25 _ (w.heap.size) (nl (m)) 25 _ rfl (b_m.below hC b_m.lt) Try.underlying25 rfl (szN 0) ?_)
        exact ⟨own_pd _ rfl rfl, hC, Below.refl _ _⟩
      · obtain rfl := Option.some.inj ho
        have dg : v 17 = .bool true := hall ⟨17, .guard⟩ (by simp) rfl _ rfl
        have d18 : v 18 = .agg (nl (m)).toArray := hall ⟨18, .data⟩ (by simp) rfl _ rfl
        refine gw (by simp [Region.wanted, yielded, dg]) (g_call 22 _ _ [.agg (nl (m)).toArray] (kf22 _ _) (by show ([v 18] : List Value) = _; rw [d18]; (try rfl)) ((fold_any m ml wx hml.out).mono ?_))
        rintro e w' ⟨rfl, hb⟩
        exact ⟨_, rfl, own_pd _ rfl rfl, hC.trans (hb.mono hC.size), hb⟩
      · obtain rfl := Option.some.inj ho
        have dg : v 17 = .bool true := hall ⟨17, .guard⟩ (by simp) rfl _ rfl
        refine gw (by simp [Region.wanted, yielded, dg]) (g_field0 _ _ _ rfl ?_)
        exact ⟨own_pd _ rfl rfl, hC, Below.refl _ _⟩
      · obtain rfl := Option.some.inj ho
        have dg : v 17 = .bool true := hall ⟨17, .guard⟩ (by simp) rfl _ rfl
        have d20 : v 20 = .pointer (some ⟨w.heap.size, 0, none⟩) := hall ⟨20, .data⟩ (by simp) rfl _ rfl
        refine gw (by simp [Region.wanted, yielded, dg]) (g_cell2 _ (w.heap.size) 0 (nl (m)) 25 _ (show v 20 = _ from d20) (b_m.below hC b_m.lt) (nl0 _ _ hmh.out) ?_)
        exact ⟨own_pd _ rfl rfl, hC, Below.refl _ _⟩
      · obtain rfl := Option.some.inj ho
        have dg : v 17 = .bool true := hall ⟨17, .guard⟩ (by simp) rfl _ rfl
        refine gw (by simp [Region.wanted, yielded, dg]) (g_field1 _ _ rfl ?_)
        exact ⟨own_pd _ rfl rfl, hC, Below.refl _ _⟩
      · obtain rfl := Option.some.inj ho
        have dg : v 17 = .bool true := hall ⟨17, .guard⟩ (by simp) rfl _ rfl
        have d22 : v 22 = .pointer (some ⟨w.heap.size, 1, none⟩) := hall ⟨22, .data⟩ (by simp) rfl _ rfl
        refine gw (by simp [Region.wanted, yielded, dg]) (g_cell22 _ (w.heap.size) 1 (nl (m)) 25 _ (show v 22 = _ from d22) (b_m.below hC b_m.lt) (nl1 _ _ hml.out) ?_)
        exact ⟨own_pd _ rfl rfl, hC, Below.refl _ _⟩
      · obtain rfl := Option.some.inj ho
        have dg : v 17 = .bool true := hall ⟨17, .guard⟩ (by simp) rfl _ rfl
        have d21 : v 21 = .int .i64 (mh) := hall ⟨21, .data⟩ (by simp) rfl _ rfl
        have d23 : v 23 = .int .u64 (ml) := hall ⟨23, .data⟩ (by simp) rfl _ rfl
        refine gw (by simp [Region.wanted, yielded, dg]) (g_call 14 _ _ [.int .i64 (mh), .int .u64 (ml)] (kf14 _ _) (by show ([v 21, v 23] : List Value) = _; rw [d21, d23]; (try rfl)) ((from_z m mh ml wx w_m hmh hml).mono ?_))
        rintro e w' ⟨u_, rfl, hp, hb⟩
        exact ⟨_, rfl, own_pd _ rfl hp, hC.trans (hb.mono hC.size), hb⟩
      · obtain rfl := Option.some.inj ho
        have dg : v 17 = .bool true := hall ⟨17, .guard⟩ (by simp) rfl _ rfl
        have d24 : RN wx (v 24) (m) := hall ⟨24, .data⟩ (by simp) rfl _ rfl
        refine gw (by simp [Region.wanted, yielded, dg]) (g_call 23 _ _ [v 24] (kf23 _ _) (rfl) ((rfold_any _ m ml wx d24 fm hml).mono ?_))
        rintro e w' ⟨rfl, hb⟩
        exact ⟨_, rfl, own_pd _ rfl rfl, hC.trans (hb.mono hC.size), hb⟩
      · obtain rfl := Option.some.inj ho
        have dg : v 17 = .bool true := hall ⟨17, .guard⟩ (by simp) rfl _ rfl
        have d19 : v 19 = .int .u64 (ml) := hall ⟨19, .data⟩ (by simp) rfl _ rfl
        have d25 : v 25 = .int .u64 (ml) := hall ⟨25, .data⟩ (by simp) rfl _ rfl
        refine gw (by simp [Region.wanted, yielded, dg]) (g_ieq 22 _ _ .u64 _ _ true (show v 19 = _ from d19) (show v 25 = _ from d25) (decide_eq_true rfl) ?_)
        exact ⟨own_pd _ rfl rfl, hC, Below.refl _ _⟩
      · obtain rfl := Option.some.inj ho
        have d17 : v 17 = .bool true := hall ⟨17, .data⟩ (by simp) rfl _ rfl
        have d26 : v 26 = .bool true := hall ⟨26, .data⟩ (by simp) rfl _ rfl
        refine gw rfl (g_pickt _ _ _ _ (show v 17 = _ from d17) (show v 26 = _ from d26) ?_)
        exact ⟨own_pd _ rfl rfl, hC, Below.refl _ _⟩
      · obtain rfl := Option.some.inj ho
        have d27 : v 27 = .bool true := hall ⟨27, .data⟩ (by simp) rfl _ rfl
        refine gw rfl (g_move _ _ (show v 27 = _ from d27) ?_)
        exact ⟨own_pd _ rfl rfl, hC, Below.refl _ _⟩
      · obtain rfl := Option.some.inj ho
        have dg : v 28 = .bool true := hall ⟨28, .guard⟩ (by simp) rfl _ rfl
        refine gw (by simp [Region.wanted, yielded, dg]) (g_move _ _ rfl ?_)
        exact ⟨own_pd _ rfl rfl, hC, Below.refl _ _⟩
      · obtain rfl := Option.some.inj ho
        have dg : v 28 = .bool true := hall ⟨28, .guard⟩ (by simp) rfl _ rfl
        refine gw (by simp [Region.wanted, yielded, dg]) (g_move _ _ rfl ?_)
        exact ⟨own_pd _ rfl rfl, hC, Below.refl _ _⟩
      · obtain rfl := Option.some.inj ho
        have dg : v 28 = .bool true := hall ⟨28, .guard⟩ (by simp) rfl _ rfl
        have d29 : v 29 = .int .i64 (0) := hall ⟨29, .data⟩ (by simp) rfl _ rfl
        have d30 : v 30 = .int .i64 (0) := hall ⟨30, .data⟩ (by simp) rfl _ rfl
        refine gw (by simp [Region.wanted, yielded, dg]) (g_ieq 2 _ _ .i64 _ _ true (show v 29 = _ from d29) (show v 30 = _ from d30) (by decide) ?_)
        exact ⟨own_pd _ rfl rfl, hC, Below.refl _ _⟩
      · obtain rfl := Option.some.inj ho
        have d28 : v 28 = .bool true := hall ⟨28, .data⟩ (by simp) rfl _ rfl
        have d31 : v 31 = .bool true := hall ⟨31, .data⟩ (by simp) rfl _ rfl
        refine gw rfl (g_pickt _ _ _ _ (show v 28 = _ from d28) (show v 31 = _ from d31) ?_)
        exact ⟨own_pd _ rfl rfl, hC, Below.refl _ _⟩
      · obtain rfl := Option.some.inj ho
        have d32 : v 32 = .bool true := hall ⟨32, .data⟩ (by simp) rfl _ rfl
        refine gw rfl (g_move _ _ (show v 32 = _ from d32) ?_)
        exact ⟨own_pd _ rfl rfl, hC, Below.refl _ _⟩
      · obtain rfl := Option.some.inj ho
        have dg : v 33 = .bool true := hall ⟨33, .guard⟩ (by simp) rfl _ rfl
        refine gw (by simp [Region.wanted, yielded, dg]) (g_move _ _ rfl ?_)
        exact ⟨own_pd _ rfl rfl, hC, Below.refl _ _⟩
      · obtain rfl := Option.some.inj ho
        have dg : v 33 = .bool true := hall ⟨33, .guard⟩ (by simp) rfl _ rfl
        refine gw (by simp [Region.wanted, yielded, dg]) (g_move _ _ rfl ?_)
        exact ⟨own_pd _ rfl rfl, hC, Below.refl _ _⟩
      · obtain rfl := Option.some.inj ho
        have dg : v 33 = .bool true := hall ⟨33, .guard⟩ (by simp) rfl _ rfl
        have d34 : v 34 = .int .i64 (6) := hall ⟨34, .data⟩ (by simp) rfl _ rfl
        have d35 : v 35 = .int .i64 (6) := hall ⟨35, .data⟩ (by simp) rfl _ rfl
        refine gw (by simp [Region.wanted, yielded, dg]) (g_ieq 27 _ _ .i64 _ _ true (show v 34 = _ from d34) (show v 35 = _ from d35) (by decide) ?_)
        exact ⟨own_pd _ rfl rfl, hC, Below.refl _ _⟩
      · obtain rfl := Option.some.inj ho
        have d33 : v 33 = .bool true := hall ⟨33, .data⟩ (by simp) rfl _ rfl
        have d36 : v 36 = .bool true := hall ⟨36, .data⟩ (by simp) rfl _ rfl
        refine gw rfl (g_pickt _ _ _ _ (show v 33 = _ from d33) (show v 36 = _ from d36) ?_)
        exact ⟨own_pd _ rfl rfl, hC, Below.refl _ _⟩
      · obtain rfl := Option.some.inj ho
        have d37 : v 37 = .bool true := hall ⟨37, .data⟩ (by simp) rfl _ rfl
        refine gw rfl (g_assign _ _ (show v 37 = _ from d37) ?_)
        exact ⟨own_pd _ rfl rfl, hC, Below.refl _ _⟩
      · simp at ho
    · simp only [full, Act.put, List.setIfInBounds_toArray, List.set_cons_succ, List.set_cons_zero, Nat.zero_add, Nat.reduceAdd]
      intro v w15 hC hall
      have d0 : v 0 = .int .u64 (a) := hall 0 _ (by decide) rfl
      (try rw [d0])
      clear d0
      have d1 : v 1 = .int .u64 (b) := hall 1 _ (by decide) rfl
      (try rw [d1])
      clear d1
      have d2 : v 2 = .int .i64 (F) := hall 2 _ (by decide) rfl
      (try rw [d2])
      clear d2
      have d3 : v 3 = .int .u64 (a) := hall 3 _ (by decide) rfl
      (try rw [d3])
      clear d3
      have d4 : v 4 = .int .u64 (b) := hall 4 _ (by decide) rfl
      (try rw [d4])
      clear d4
      have d5 : v 5 = .int .i64 (F) := hall 5 _ (by decide) rfl
      (try rw [d5])
      clear d5
      have d6 : v 6 = .bool true := hall 6 _ (by decide) rfl
      (try rw [d6])
      clear d6
      have d7 : v 7 = .bool true := hall 7 _ (by decide) rfl
      (try rw [d7])
      clear d7
      have d8 : v 8 = .int .u64 (a) := hall 8 _ (by decide) rfl
      (try rw [d8])
      clear d8
      have d9 : v 9 = .int .i64 (n) := hall 9 _ (by decide) rfl
      (try rw [d9])
      clear d9
      have d10 : v 10 = .int .u64 (S) := hall 10 _ (by decide) rfl
      (try rw [d10])
      clear d10
      have d11 : v 11 = .int .u64 (a) := hall 11 _ (by decide) rfl
      (try rw [d11])
      clear d11
      have d12 : v 12 = .int .i64 (n) := hall 12 _ (by decide) rfl
      (try rw [d12])
      clear d12
      have d13 : v 13 = .int .u64 (c) := hall 13 _ (by decide) rfl
      (try rw [d13])
      clear d13
      have d14 : v 14 = .int .u64 (S) := hall 14 _ (by decide) rfl
      (try rw [d14])
      clear d14
      have d15 : v 15 = .bool true := hall 15 _ (by decide) rfl
      (try rw [d15])
      clear d15
      have d16 : v 16 = .bool true := hall 16 _ (by decide) rfl
      (try rw [d16])
      clear d16
      have d17 : v 17 = .bool true := hall 17 _ (by decide) rfl
      (try rw [d17])
      clear d17
      have d18 : v 18 = .agg (nl (m)).toArray := hall 18 _ (by decide) rfl
      (try rw [d18])
      clear d18
      have d19 : v 19 = .int .u64 (ml) := hall 19 _ (by decide) rfl
      (try rw [d19])
      clear d19
      have d20 : v 20 = .pointer (some ⟨w.heap.size, 0, none⟩) := hall 20 _ (by decide) rfl
      (try rw [d20])
      clear d20
      have d21 : v 21 = .int .i64 (mh) := hall 21 _ (by decide) rfl
      (try rw [d21])
      clear d21
      have d22 : v 22 = .pointer (some ⟨w.heap.size, 1, none⟩) := hall 22 _ (by decide) rfl
      (try rw [d22])
      clear d22
      have d23 : v 23 = .int .u64 (ml) := hall 23 _ (by decide) rfl
      (try rw [d23])
      clear d23
      generalize v 24 = y2_24
      have d25 : v 25 = .int .u64 (ml) := hall 25 _ (by decide) rfl
      (try rw [d25])
      clear d25
      have d26 : v 26 = .bool true := hall 26 _ (by decide) rfl
      (try rw [d26])
      clear d26
      have d27 : v 27 = .bool true := hall 27 _ (by decide) rfl
      (try rw [d27])
      clear d27
      have d28 : v 28 = .bool true := hall 28 _ (by decide) rfl
      (try rw [d28])
      clear d28
      have d29 : v 29 = .int .i64 (0) := hall 29 _ (by decide) rfl
      (try rw [d29])
      clear d29
      have d30 : v 30 = .int .i64 (0) := hall 30 _ (by decide) rfl
      (try rw [d30])
      clear d30
      have d31 : v 31 = .bool true := hall 31 _ (by decide) rfl
      (try rw [d31])
      clear d31
      have d32 : v 32 = .bool true := hall 32 _ (by decide) rfl
      (try rw [d32])
      clear d32
      have d33 : v 33 = .bool true := hall 33 _ (by decide) rfl
      (try rw [d33])
      clear d33
      have d34 : v 34 = .int .i64 (6) := hall 34 _ (by decide) rfl
      (try rw [d34])
      clear d34
      have d35 : v 35 = .int .i64 (6) := hall 35 _ (by decide) rfl
      (try rw [d35])
      clear d35
      have d36 : v 36 = .bool true := hall 36 _ (by decide) rfl
      (try rw [d36])
      clear d36
      have d37 : v 37 = .bool true := hall 37 _ (by decide) rfl
      (try rw [d37])
      clear d37
      have d38 : v 38 = .bool true := hall 38 _ (by decide) rfl
      (try rw [d38])
      clear d38
      clear hall
      replace r_n33 := r_n33.below hC
      replace r_n34 := r_n34.below hC
      replace b_m := b_m.below hC b_m.lt
      replace b_q := b_q.below hC b_q.lt
      replace b_x := b_x.below hC b_x.lt
      replace b_g := b_g.below hC b_g.lt
      replace hB := hB.trans (hC.mono hB.size)
      clear hC
      go_wp2_with fail
      go_ret
      exact ⟨rfl, hB⟩

set_option maxRecDepth 10000 in
set_option maxHeartbeats 16000000 in
theorem walk01 (a : Int) (b : Int) (n : Int) (m : Int) (q : Int) (w_a : 0 ≤ a ∧ a < 18446744073709551616) (w_b : 0 ≤ b ∧ b < 18446744073709551616) (w_n : In64 n) (w_m : In128 m) (w_q : In128 q) (w : World) (G D mh ml qh ql F c S : Int) (hG : Hid (nr a m = G)) (iG : Hid (¬ In128 (nr a m))) (fG : Few G 200) (fm : Few m 200) (hfi : Hid (decide (-((2 : Int) ^ 127) ≤ G ∧ G < (2 : Int) ^ 127) = false)) (hmh : Hid (m / 18446744073709551616 = mh)) (hml : Hid (m % 18446744073709551616 = ml)) (hqh : Hid (q / 18446744073709551616 = qh)) (hql : Hid (q % 18446744073709551616 = ql)) (hD : Hid (m - q = D)) (jD : In64 D) (hF : Hid (IntKind.i64.wrap (IntKind.u64.wrap (a - b)) = F)) (hc : Hid (IntKind.u64.wrap n = c)) (hS1 : Hid (IntKind.u64.wrap (a + IntKind.u64.wrap n) = S)) (hS2 : Hid (IntKind.u64.wrap (a + c) = S)) :
    Calls Try.prog 3 #[.int .u64 a, .int .u64 b, .int .i64 n, .agg (nl m).toArray, .agg (nl q).toArray] w fun e w' => e = .returned (.bool true) ∧ Below w.heap.size w w' := by
  go_enter Try.func3, Try.ntmps3
  go_wp2_with (first
    | ((with_reducible refine at_boxD 8 25 ?_); refine L_box 25 _ (nl (m)) rfl ?_; intro w1 t_ b_m; have l_m : w.heap.size ≤ w.heap.size := Nat.le_refl _; have hB : Below w.heap.size w w1 := t_.below (Below.refl _ _) (Nat.le_refl _); clear t_)
    | ((with_reducible refine at_boxD 9 25 ?_); refine L_box 25 _ (nl (q)) rfl ?_; intro w2 t_ b_q; have l_q : w.heap.size ≤ w1.heap.size := hB.size; have o_q := b_m.lt; replace b_m := t_.blk b_m (by omega); replace hB := t_.below hB l_q; clear t_))
  refine (awake_any w2).mono ?_
  rintro e w3 ⟨rfl, t_⟩
  replace b_m := b_m.below t_ b_m.lt
  replace b_q := b_q.below t_ b_q.lt
  replace hB := hB.trans (t_.mono hB.size)
  clear t_
  go_wp2_with (first
    | ((with_reducible refine at_loadD 24 25 ?_); refine L_load_all 25 _ (w.heap.size) (nl (m)) 25 _ rfl b_m Try.underlying25 rfl (szN 0) ?_))
  refine (near_over a m w3 w_m iG.out).mono ?_
  rintro e w4 ⟨rfl, t_⟩
  replace b_m := b_m.below t_ b_m.lt
  replace b_q := b_q.below t_ b_q.lt
  replace hB := hB.trans (t_.mono hB.size)
  clear t_
  go_wp2_with (first
    | ((with_reducible refine at_allocD 11 25 ?_); refine L_alloc 25 (nl (0)) zeroN ?_; intro w5 t_ b_x; have l_x : w.heap.size ≤ w4.heap.size := hB.size; have o_x := b_q.lt; replace b_m := t_.blk b_m (by omega); replace b_q := t_.blk b_q (by omega); replace hB := t_.below hB l_x; clear t_)
    | ((with_reducible refine at_storeX 11 25 ?_); refine L_store_all 25 _ _ (w4.heap.size) (nl (0)) _ 25 rfl rfl b_x (szN 0) (rfl) (one_nl _) ?_; have b0_x := b_x; clear b_x; intro w6 t_ b_x; replace b_m := t_.blk b_m (by omega); replace b_q := t_.blk b_q (by omega); replace hB := t_.below hB l_x; clear t_ b0_x)
    | ((with_reducible refine at_loadD 30 2 ?_); refine L_cell2 _ (w.heap.size) 0 (nl (m)) 25 (.int .i64 (mh)) rfl b_m (nl0 _ _ hmh.out) ?_)
    | ((with_reducible refine at_loadD 32 22 ?_); refine L_cell22 _ (w.heap.size) 1 (nl (m)) 25 (.int .u64 (ml)) rfl b_m (nl1 _ _ hml.out) ?_))
  refine (from_z m mh ml w6 w_m hmh hml).mono ?_
  rintro e w7 ⟨_, rfl, ⟨s_n33, v_n33, rfl, r_n33⟩, t_⟩
  replace b_m := b_m.below t_ b_m.lt
  replace b_q := b_q.below t_ b_q.lt
  replace b_x := b_x.below t_ b_x.lt
  replace hB := hB.trans (t_.mono hB.size)
  clear t_
  go_wp2_with fail
  refine (rnear_any _ a m G w7 ⟨_, _, rfl, r_n33⟩ w_m hG).mono ?_
  rintro e w8 ⟨_, rfl, ⟨s_n34, v_n34, rfl, r_n34⟩, t_⟩
  replace r_n33 := r_n33.below t_
  replace b_m := b_m.below t_ b_m.lt
  replace b_q := b_q.below t_ b_q.lt
  replace b_x := b_x.below t_ b_x.lt
  replace hB := hB.trans (t_.mono hB.size)
  clear t_
  go_wp2_with (first
    | ((with_reducible refine at_allocD 13 32 ?_); refine L_alloc 32 ([.bool false, .slice none 0 0]) zeroR ?_; intro w9 t_ b_g; have l_g : w.heap.size ≤ w8.heap.size := hB.size; have o_g := b_x.lt; replace r_n33 := r_n33.below t_.toBelow; replace r_n34 := r_n34.below t_.toBelow; replace b_m := t_.blk b_m (by omega); replace b_q := t_.blk b_q (by omega); replace b_x := t_.blk b_x (by omega); replace hB := t_.below hB l_g; clear t_)
    | ((with_reducible refine at_storeX 13 32 ?_); refine L_store_all 32 _ _ (w8.heap.size) ([.bool s_n34, v_n34]) _ 32 rfl rfl b_g (szR) (rfl) (one_rc _ _ r_n34.sl) ?_; have b0_g := b_g; clear b_g; intro w10 t_ b_g; replace r_n33 := r_n33.turn t_ b0_g (by decide); replace r_n34 := r_n34.turn t_ b0_g (by decide); replace b_m := t_.blk b_m (by omega); replace b_q := t_.blk b_q (by omega); replace b_x := t_.blk b_x (by omega); replace hB := t_.below hB l_g; clear t_ b0_g)
    | ((with_reducible refine at_loadD 35 32 ?_); refine L_load_all 32 _ (w8.heap.size) ([.bool s_n34, v_n34]) 32 _ rfl b_g Try.underlying32 rfl (szR) ?_))
  refine (fits_any _ G 127 w10 false ⟨_, _, rfl, r_n34⟩ fG hfi).mono ?_
  rintro e w11 ⟨rfl, t_⟩
  replace r_n33 := r_n33.below t_
  replace r_n34 := r_n34.below t_
  replace b_m := b_m.below t_ b_m.lt
  replace b_q := b_q.below t_ b_q.lt
  replace b_x := b_x.below t_ b_x.lt
  replace b_g := b_g.below t_ b_g.lt
  replace hB := hB.trans (t_.mono hB.size)
  clear t_
  go_wp2_with (first
    | ((with_reducible refine at_loadDG 41 ?_); refine L_give (by rfl) (g_load_all 25 _ (w4.heap.size) (nl (0)) 25 _ rfl b_x Try.underlying25 rfl (szN 0) ?_))
    | ((with_reducible refine at_binD 43 ?_); refine L_give (by rfl) (g_neqN _ _ (0) (0) true rfl rfl (decide_eq_true rfl) ?_))
    | ((with_reducible refine at_loadD 60 25 ?_); refine L_load_all 25 _ (w.heap.size) (nl (m)) 25 _ rfl b_m Try.underlying25 rfl (szN 0) ?_)
    | ((with_reducible refine at_loadD 61 25 ?_); refine L_load_all 25 _ (w1.heap.size) (nl (q)) 25 _ rfl b_q Try.underlying25 rfl (szN 0) ?_))
  refine (since_ok m q D w11 w_m w_q hD jD).mono ?_
  rintro e w12 ⟨rfl, t_⟩
  replace r_n33 := r_n33.below t_
  replace r_n34 := r_n34.below t_
  replace b_m := b_m.below t_ b_m.lt
  replace b_q := b_q.below t_ b_q.lt
  replace b_x := b_x.below t_ b_x.lt
  replace b_g := b_g.below t_ b_g.lt
  replace hB := hB.trans (t_.mono hB.size)
  clear t_
  go_wp2_with (first
    | ((with_reducible refine stop_region 12 ?_); intro X1 hX1))
  refine hX1.out ?_
  clear hX1
  refine wp_region_pred (by kernel_rfl) (by kernel_rfl) [.eq (.pointer (some ⟨w.heap.size, 0, none⟩)), .eq (.int .i64 (mh)), .eq (.pointer (some ⟨w.heap.size, 1, none⟩)), .eq (.int .u64 (ml)), .rn (m), .eq (.pointer (some ⟨w1.heap.size, 0, none⟩)), .eq (.int .i64 (qh)), .eq (.pointer (some ⟨w1.heap.size, 1, none⟩)), .eq (.int .u64 (ql)), .rn (q), .eq (.tuple #[.int .i64 (D), .int .i64 (0)]), .eq (.tuple #[.int .i64 (D), .int .i64 (0)]), .eq (.int .i64 (D)), .eq (.int .i64 (0)), .eq (.int .i64 (D)), .eq (.int .i64 (0))] (List.replicate 16 none) (fun wx => Below w12.heap.size w12 wx) ?_ ?_ ?_ ?_
  · exact nobs _ _
  · exact (Below.refl _ _).drew
  · simp only [full, Act.put, List.setIfInBounds_toArray, List.set_cons_succ, List.set_cons_zero, Nat.zero_add, Nat.reduceAdd]
    intro i o ho v wx hC hall
    rcases i with _ | _ | _ | _ | _ | _ | _ | _ | _ | _ | _ | _ | _ | _ | _ | _ | i
    · obtain rfl := Option.some.inj ho
      refine gw rfl (g_field0 _ _ _ rfl ?_)
      exact ⟨own_pd _ rfl rfl, hC, Below.refl _ _⟩
    · obtain rfl := Option.some.inj ho
      have d0 : v 0 = .pointer (some ⟨w.heap.size, 0, none⟩) := hall ⟨0, .data⟩ (by simp) rfl _ rfl
      refine gw rfl (g_cell2 _ (w.heap.size) 0 (nl (m)) 25 _ (show v 0 = _ from d0) (b_m.below hC b_m.lt) (nl0 _ _ hmh.out) ?_)
      exact ⟨own_pd _ rfl rfl, hC, Below.refl _ _⟩
    · obtain rfl := Option.some.inj ho
      refine gw rfl (g_field1 _ _ rfl ?_)
      exact ⟨own_pd _ rfl rfl, hC, Below.refl _ _⟩
    · obtain rfl := Option.some.inj ho
      have d2 : v 2 = .pointer (some ⟨w.heap.size, 1, none⟩) := hall ⟨2, .data⟩ (by simp) rfl _ rfl
      refine gw rfl (g_cell22 _ (w.heap.size) 1 (nl (m)) 25 _ (show v 2 = _ from d2) (b_m.below hC b_m.lt) (nl1 _ _ hml.out) ?_)
      exact ⟨own_pd _ rfl rfl, hC, Below.refl _ _⟩
    · obtain rfl := Option.some.inj ho
      have d1 : v 1 = .int .i64 (mh) := hall ⟨1, .data⟩ (by simp) rfl _ rfl
      have d3 : v 3 = .int .u64 (ml) := hall ⟨3, .data⟩ (by simp) rfl _ rfl
      refine gw rfl (g_call 14 _ _ [.int .i64 (mh), .int .u64 (ml)] (kf14 _ _) (by show ([v 1, v 3] : List Value) = _; rw [d1, d3]; (try rfl)) ((from_z m mh ml wx w_m hmh hml).mono ?_))
      rintro e w' ⟨u_, rfl, hp, hb⟩
      exact ⟨_, rfl, own_pd _ rfl hp, hC.trans (hb.mono hC.size), hb⟩
    · obtain rfl := Option.some.inj ho
      refine gw rfl (g_field0 _ _ _ rfl ?_)
      exact ⟨own_pd _ rfl rfl, hC, Below.refl _ _⟩
    · obtain rfl := Option.some.inj ho
      have d5 : v 5 = .pointer (some ⟨w1.heap.size, 0, none⟩) := hall ⟨5, .data⟩ (by simp) rfl _ rfl
      refine gw rfl (g_cell2 _ (w1.heap.size) 0 (nl (q)) 25 _ (show v 5 = _ from d5) (b_q.below hC b_q.lt) (nl0 _ _ hqh.out) ?_)
      exact ⟨own_pd _ rfl rfl, hC, Below.refl _ _⟩
    · obtain rfl := Option.some.inj ho
      refine gw rfl (g_field1 _ _ rfl ?_)
      exact ⟨own_pd _ rfl rfl, hC, Below.refl _ _⟩
    · obtain rfl := Option.some.inj ho
      have d7 : v 7 = .pointer (some ⟨w1.heap.size, 1, none⟩) := hall ⟨7, .data⟩ (by simp) rfl _ rfl
      refine gw rfl (g_cell22 _ (w1.heap.size) 1 (nl (q)) 25 _ (show v 7 = _ from d7) (b_q.below hC b_q.lt) (nl1 _ _ hql.out) ?_)
      exact ⟨own_pd _ rfl rfl, hC, Below.refl _ _⟩
    · obtain rfl := Option.some.inj ho
      have d6 : v 6 = .int .i64 (qh) := hall ⟨6, .data⟩ (by simp) rfl _ rfl
      have d8 : v 8 = .int .u64 (ql) := hall ⟨8, .data⟩ (by simp) rfl _ rfl
      refine gw rfl (g_call 14 _ _ [.int .i64 (qh), .int .u64 (ql)] (kf14 _ _) (by show ([v 6, v 8] : List Value) = _; rw [d6, d8]; (try rfl)) ((from_z q qh ql wx w_q hqh hql).mono ?_))
      rintro e w' ⟨u_, rfl, hp, hb⟩
      exact ⟨_, rfl, own_pd _ rfl hp, hC.trans (hb.mono hC.size), hb⟩
    · obtain rfl := Option.some.inj ho
      have d4 : RN wx (v 4) (m) := hall ⟨4, .data⟩ (by simp) rfl _ rfl
      have d9 : RN wx (v 9) (q) := hall ⟨9, .data⟩ (by simp) rfl _ rfl
      refine gw rfl (g_call 18 _ _ [v 4, v 9] (kf18 _ _) (rfl) ((rsince_ok _ _ m q D wx d4 d9 w_m w_q hD jD).mono ?_))
      rintro e w' ⟨rfl, hb⟩
      exact ⟨_, rfl, own_pd _ rfl rfl, hC.trans (hb.mono hC.size), hb⟩
    · obtain rfl := Option.some.inj ho
      have d10 : v 10 = .tuple #[.int .i64 (D), .int .i64 (0)] := hall ⟨10, .data⟩ (by simp) rfl _ rfl
      refine gw rfl (g_move _ _ (show v 10 = _ from d10) ?_)
      exact ⟨own_pd _ rfl rfl, hC, Below.refl _ _⟩
    · obtain rfl := Option.some.inj ho
      have d11 : v 11 = .tuple #[.int .i64 (D), .int .i64 (0)] := hall ⟨11, .data⟩ (by simp) rfl _ rfl
      refine gw rfl (g_extract _ _ 0 _ (show v 11 = _ from d11) rfl ?_)
      exact ⟨own_pd _ rfl rfl, hC, Below.refl _ _⟩
    · obtain rfl := Option.some.inj ho
      have d11 : v 11 = .tuple #[.int .i64 (D), .int .i64 (0)] := hall ⟨11, .data⟩ (by simp) rfl _ rfl
      refine gw rfl (g_extract _ _ 1 _ (show v 11 = _ from d11) rfl ?_)
      exact ⟨own_pd _ rfl rfl, hC, Below.refl _ _⟩
    · obtain rfl := Option.some.inj ho
      have d12 : v 12 = .int .i64 (D) := hall ⟨12, .data⟩ (by simp) rfl _ rfl
      refine gw rfl (g_assign _ _ (show v 12 = _ from d12) ?_)
      exact ⟨own_pd _ rfl rfl, hC, Below.refl _ _⟩
    · obtain rfl := Option.some.inj ho
      have d13 : v 13 = .int .i64 (0) := hall ⟨13, .data⟩ (by simp) rfl _ rfl
      refine gw rfl (g_assign _ _ (show v 13 = _ from d13) ?_)
      exact ⟨own_pd _ rfl rfl, hC, Below.refl _ _⟩
    · simp at ho
  · simp only [full, Act.put, List.setIfInBounds_toArray, List.set_cons_succ, List.set_cons_zero, Nat.zero_add, Nat.reduceAdd]
    intro v w13 hC hall
    have d0 : v 0 = .pointer (some ⟨w.heap.size, 0, none⟩) := hall 0 _ (by decide) rfl
    (try rw [d0])
    clear d0
    have d1 : v 1 = .int .i64 (mh) := hall 1 _ (by decide) rfl
    (try rw [d1])
    clear d1
    have d2 : v 2 = .pointer (some ⟨w.heap.size, 1, none⟩) := hall 2 _ (by decide) rfl
    (try rw [d2])
    clear d2
    have d3 : v 3 = .int .u64 (ml) := hall 3 _ (by decide) rfl
    (try rw [d3])
    clear d3
    generalize v 4 = y1_4
    have d5 : v 5 = .pointer (some ⟨w1.heap.size, 0, none⟩) := hall 5 _ (by decide) rfl
    (try rw [d5])
    clear d5
    have d6 : v 6 = .int .i64 (qh) := hall 6 _ (by decide) rfl
    (try rw [d6])
    clear d6
    have d7 : v 7 = .pointer (some ⟨w1.heap.size, 1, none⟩) := hall 7 _ (by decide) rfl
    (try rw [d7])
    clear d7
    have d8 : v 8 = .int .u64 (ql) := hall 8 _ (by decide) rfl
    (try rw [d8])
    clear d8
    generalize v 9 = y1_9
    have d10 : v 10 = .tuple #[.int .i64 (D), .int .i64 (0)] := hall 10 _ (by decide) rfl
    (try rw [d10])
    clear d10
    have d11 : v 11 = .tuple #[.int .i64 (D), .int .i64 (0)] := hall 11 _ (by decide) rfl
    (try rw [d11])
    clear d11
    have d12 : v 12 = .int .i64 (D) := hall 12 _ (by decide) rfl
    (try rw [d12])
    clear d12
    have d13 : v 13 = .int .i64 (0) := hall 13 _ (by decide) rfl
    (try rw [d13])
    clear d13
    have d14 : v 14 = .int .i64 (D) := hall 14 _ (by decide) rfl
    (try rw [d14])
    clear d14
    have d15 : v 15 = .int .i64 (0) := hall 15 _ (by decide) rfl
    (try rw [d15])
    clear d15
    clear hall
    replace r_n33 := r_n33.below hC
    replace r_n34 := r_n34.below hC
    replace b_m := b_m.below hC b_m.lt
    replace b_q := b_q.below hC b_q.lt
    replace b_x := b_x.below hC b_x.lt
    replace b_g := b_g.below hC b_g.lt
    replace hB := hB.trans (hC.mono hB.size)
    clear hC
    go_wp2_with (first
      | ((with_reducible refine stop_region 13 ?_); intro X2 hX2))
    refine hX2.out ?_
    clear hX2
    (try simp only [List.append_eq, List.cons_append, List.nil_append])
    refine wp_region_pred (by kernel_rfl) (by kernel_rfl) [.eq (.int .u64 (a)), .eq (.int .u64 (b)), .eq (.int .i64 (F)), .eq (.int .u64 (a)), .eq (.int .u64 (b)), .eq (.int .i64 (F)), .eq (.bool true), .eq (.bool true), .eq (.int .u64 (a)), .eq (.int .i64 (n)), .eq (.int .u64 (S)), .eq (.int .u64 (a)), .eq (.int .i64 (n)), .eq (.int .u64 (c)), .eq (.int .u64 (S)), .eq (.bool true), .eq (.bool true), .eq (.bool true), .eq (.agg (nl (m)).toArray), .eq (.int .u64 (ml)), .eq (.pointer (some ⟨w.heap.size, 0, none⟩)), .eq (.int .i64 (mh)), .eq (.pointer (some ⟨w.heap.size, 1, none⟩)), .eq (.int .u64 (ml)), .rn (m), .eq (.int .u64 (ml)), .eq (.bool true), .eq (.bool true), .eq (.bool true), .eq (.int .i64 (D)), .eq (.int .i64 (D)), .eq (.bool true), .eq (.bool true), .eq (.bool true), .eq (.int .i64 (0)), .eq (.int .i64 (0)), .eq (.bool true), .eq (.bool true), .eq (.bool true)] (List.replicate 39 none) (fun wx => Below w13.heap.size w13 wx) ?_ ?_ ?_ ?_
    · exact nobs _ _
    · exact (Below.refl _ _).drew
    · simp only [full, Act.put, List.setIfInBounds_toArray, List.set_cons_succ, List.set_cons_zero, Nat.zero_add, Nat.reduceAdd]
      intro i o ho v wx hC hall
      rcases i with _ | _ | _ | _ | _ | _ | _ | _ | _ | _ | _ | _ | _ | _ | _ | _ | _ | _ | _ | _ | _ | _ | _ | _ | _ | _ | _ | _ | _ | _ | _ | _ | _ | _ | _ | _ | _ | _ | _ | i
      · obtain rfl := Option.some.inj ho
        refine gw rfl (g_move _ _ rfl ?_)
        exact ⟨own_pd _ rfl rfl, hC, Below.refl _ _⟩
      · obtain rfl := Option.some.inj ho
        refine gw rfl (g_move _ _ rfl ?_)
        exact ⟨own_pd _ rfl rfl, hC, Below.refl _ _⟩
      · obtain rfl := Option.some.inj ho
        have d0 : v 0 = .int .u64 (a) := hall ⟨0, .data⟩ (by simp) rfl _ rfl
        have d1 : v 1 = .int .u64 (b) := hall ⟨1, .data⟩ (by simp) rfl _ rfl
        refine gw rfl (g_call 19 _ _ [.int .u64 (a), .int .u64 (b)] (kf19 _ _) (by show ([v 0, v 1] : List Value) = _; rw [d0, d1]; (try rfl)) ((diff_any a b F wx hF.out).mono ?_))
        rintro e w' ⟨rfl, rfl⟩
        exact ⟨_, rfl, own_pd _ rfl rfl, hC, Below.refl _ _⟩
      · obtain rfl := Option.some.inj ho
        refine gw rfl (g_move _ _ rfl ?_)
        exact ⟨own_pd _ rfl rfl, hC, Below.refl _ _⟩
      · obtain rfl := Option.some.inj ho
        refine gw rfl (g_move _ _ rfl ?_)
        exact ⟨own_pd _ rfl rfl, hC, Below.refl _ _⟩
      · obtain rfl := Option.some.inj ho
        have d3 : v 3 = .int .u64 (a) := hall ⟨3, .data⟩ (by simp) rfl _ rfl
        have d4 : v 4 = .int .u64 (b) := hall ⟨4, .data⟩ (by simp) rfl _ rfl
        refine gw rfl (g_call 20 _ _ [.int .u64 (a), .int .u64 (b)] (kf20 _ _) (by show ([v 3, v 4] : List Value) = _; rw [d3, d4]; (try rfl)) ((rdiff_any a b F wx hF.out).mono ?_))
        rintro e w' ⟨rfl, rfl⟩
        exact ⟨_, rfl, own_pd _ rfl rfl, hC, Below.refl _ _⟩
      · obtain rfl := Option.some.inj ho
        have d2 : v 2 = .int .i64 (F) := hall ⟨2, .data⟩ (by simp) rfl _ rfl
        have d5 : v 5 = .int .i64 (F) := hall ⟨5, .data⟩ (by simp) rfl _ rfl
        refine gw rfl (g_ieq 2 _ _ .i64 _ _ true (show v 2 = _ from d2) (show v 5 = _ from d5) (decide_eq_true rfl) ?_)
        exact ⟨own_pd _ rfl rfl, hC, Below.refl _ _⟩
      · obtain rfl := Option.some.inj ho
        have d6 : v 6 = .bool true := hall ⟨6, .data⟩ (by simp) rfl _ rfl
        refine gw rfl (g_move _ _ (show v 6 = _ from d6) ?_)
        exact ⟨own_pd _ rfl rfl, hC, Below.refl _ _⟩
      · obtain rfl := Option.some.inj ho
        have dg : v 7 = .bool true := hall ⟨7, .guard⟩ (by simp) rfl _ rfl
        refine gw (by simp [Region.wanted, yielded, dg]) (g_move _ _ rfl ?_)
        exact ⟨own_pd _ rfl rfl, hC, Below.refl _ _⟩
      · obtain rfl := Option.some.inj ho
        have dg : v 7 = .bool true := hall ⟨7, .guard⟩ (by simp) rfl _ rfl
        refine gw (by simp [Region.wanted, yielded, dg]) (g_move _ _ rfl ?_)
        exact ⟨own_pd _ rfl rfl, hC, Below.refl _ _⟩
      · obtain rfl := Option.some.inj ho
        have dg : v 7 = .bool true := hall ⟨7, .guard⟩ (by simp) rfl _ rfl
        have d8 : v 8 = .int .u64 (a) := hall ⟨8, .data⟩ (by simp) rfl _ rfl
        have d9 : v 9 = .int .i64 (n) := hall ⟨9, .data⟩ (by simp) rfl _ rfl
        refine gw (by simp [Region.wanted, yielded, dg]) (g_call 21 _ _ [.int .u64 (a), .int .i64 (n)] (kf21 _ _) (by show ([v 8, v 9] : List Value) = _; rw [d8, d9]; (try rfl)) ((sadd_any a n S wx hS1.out).mono ?_))
        rintro e w' ⟨rfl, rfl⟩
        exact ⟨_, rfl, own_pd _ rfl rfl, hC, Below.refl _ _⟩
      · obtain rfl := Option.some.inj ho
        have dg : v 7 = .bool true := hall ⟨7, .guard⟩ (by simp) rfl _ rfl
        refine gw (by simp [Region.wanted, yielded, dg]) (g_move _ _ rfl ?_)
        exact ⟨own_pd _ rfl rfl, hC, Below.refl _ _⟩
      · obtain rfl := Option.some.inj ho
        have dg : v 7 = .bool true := hall ⟨7, .guard⟩ (by simp) rfl _ rfl
        refine gw (by simp [Region.wanted, yielded, dg]) (g_move _ _ rfl ?_)
        exact ⟨own_pd _ rfl rfl, hC, Below.refl _ _⟩
      · obtain rfl := Option.some.inj ho
        have dg : v 7 = .bool true := hall ⟨7, .guard⟩ (by simp) rfl _ rfl
        have d12 : v 12 = .int .i64 (n) := hall ⟨12, .data⟩ (by simp) rfl _ rfl
        refine gw (by simp [Region.wanted, yielded, dg]) (g_cast _ _ _ (show v 12 = _ from d12) (hc.out) ?_)
        exact ⟨own_pd _ rfl rfl, hC, Below.refl _ _⟩
      · obtain rfl := Option.some.inj ho
        have dg : v 7 = .bool true := hall ⟨7, .guard⟩ (by simp) rfl _ rfl
        have d11 : v 11 = .int .u64 (a) := hall ⟨11, .data⟩ (by simp) rfl _ rfl
        have d13 : v 13 = .int .u64 (c) := hall ⟨13, .data⟩ (by simp) rfl _ rfl
        refine gw (by simp [Region.wanted, yielded, dg]) (g_iadd 23 _ _ .u64 _ _ _ (show v 11 = _ from d11) (show v 13 = _ from d13) (hS2.out) ?_)
        exact ⟨own_pd _ rfl rfl, hC, Below.refl _ _⟩
      · obtain rfl := Option.some.inj ho
        have dg : v 7 = .bool true := hall ⟨7, .guard⟩ (by simp) rfl _ rfl
        have d10 : v 10 = .int .u64 (S) := hall ⟨10, .data⟩ (by simp) rfl _ rfl
        have d14 : v 14 = .int .u64 (S) := hall ⟨14, .data⟩ (by simp) rfl _ rfl
        refine gw (by simp [Region.wanted, yielded, dg]) (g_ieq 23 _ _ .u64 _ _ true (show v 10 = _ from d10) (show v 14 = _ from d14) (decide_eq_true rfl) ?_)
        exact ⟨own_pd _ rfl rfl, hC, Below.refl _ _⟩
      · obtain rfl := Option.some.inj ho
        have d7 : v 7 = .bool true := hall ⟨7, .data⟩ (by simp) rfl _ rfl
        have d15 : v 15 = .bool true := hall ⟨15, .data⟩ (by simp) rfl _ rfl
        refine gw rfl (g_pickt _ _ _ _ (show v 7 = _ from d7) (show v 15 = _ from d15) ?_)
        exact ⟨own_pd _ rfl rfl, hC, Below.refl _ _⟩
      · obtain rfl := Option.some.inj ho
        have d16 : v 16 = .bool true := hall ⟨16, .data⟩ (by simp) rfl _ rfl
        refine gw rfl (g_move _ _ (show v 16 = _ from d16) ?_)
        exact ⟨own_pd _ rfl rfl, hC, Below.refl _ _⟩
      · obtain rfl := Option.some.inj ho
        have dg : v 17 = .bool true := hall ⟨17, .guard⟩ (by simp) rfl _ rfl
        refine gw (by simp [Region.wanted, yielded, dg]) (g_load_all 25 _ (w.heap.size) (nl (m)) 25 _ rfl (b_m.below hC b_m.lt) Try.underlying25 rfl (szN 0) ?_)
        exact ⟨own_pd _ rfl rfl, hC, Below.refl _ _⟩
      · obtain rfl := Option.some.inj ho
        have dg : v 17 = .bool true := hall ⟨17, .guard⟩ (by simp) rfl _ rfl
        have d18 : v 18 = .agg (nl (m)).toArray := hall ⟨18, .data⟩ (by simp) rfl _ rfl
        refine gw (by simp [Region.wanted, yielded, dg]) (g_call 22 _ _ [.agg (nl (m)).toArray] (kf22 _ _) (by show ([v 18] : List Value) = _; rw [d18]; (try rfl)) ((fold_any m ml wx hml.out).mono ?_))
        rintro e w' ⟨rfl, hb⟩
        exact ⟨_, rfl, own_pd _ rfl rfl, hC.trans (hb.mono hC.size), hb⟩
      · obtain rfl := Option.some.inj ho
        have dg : v 17 = .bool true := hall ⟨17, .guard⟩ (by simp) rfl _ rfl
        refine gw (by simp [Region.wanted, yielded, dg]) (g_field0 _ _ _ rfl ?_)
        exact ⟨own_pd _ rfl rfl, hC, Below.refl _ _⟩
      · obtain rfl := Option.some.inj ho
        have dg : v 17 = .bool true := hall ⟨17, .guard⟩ (by simp) rfl _ rfl
        have d20 : v 20 = .pointer (some ⟨w.heap.size, 0, none⟩) := hall ⟨20, .data⟩ (by simp) rfl _ rfl
        refine gw (by simp [Region.wanted, yielded, dg]) (g_cell2 _ (w.heap.size) 0 (nl (m)) 25 _ (show v 20 = _ from d20) (b_m.below hC b_m.lt) (nl0 _ _ hmh.out) ?_)
        exact ⟨own_pd _ rfl rfl, hC, Below.refl _ _⟩
      · obtain rfl := Option.some.inj ho
        have dg : v 17 = .bool true := hall ⟨17, .guard⟩ (by simp) rfl _ rfl
        refine gw (by simp [Region.wanted, yielded, dg]) (g_field1 _ _ rfl ?_)
        exact ⟨own_pd _ rfl rfl, hC, Below.refl _ _⟩
      · obtain rfl := Option.some.inj ho
        have dg : v 17 = .bool true := hall ⟨17, .guard⟩ (by simp) rfl _ rfl
        have d22 : v 22 = .pointer (some ⟨w.heap.size, 1, none⟩) := hall ⟨22, .data⟩ (by simp) rfl _ rfl
        refine gw (by simp [Region.wanted, yielded, dg]) (g_cell22 _ (w.heap.size) 1 (nl (m)) 25 _ (show v 22 = _ from d22) (b_m.below hC b_m.lt) (nl1 _ _ hml.out) ?_)
        exact ⟨own_pd _ rfl rfl, hC, Below.refl _ _⟩
      · obtain rfl := Option.some.inj ho
        have dg : v 17 = .bool true := hall ⟨17, .guard⟩ (by simp) rfl _ rfl
        have d21 : v 21 = .int .i64 (mh) := hall ⟨21, .data⟩ (by simp) rfl _ rfl
        have d23 : v 23 = .int .u64 (ml) := hall ⟨23, .data⟩ (by simp) rfl _ rfl
        refine gw (by simp [Region.wanted, yielded, dg]) (g_call 14 _ _ [.int .i64 (mh), .int .u64 (ml)] (kf14 _ _) (by show ([v 21, v 23] : List Value) = _; rw [d21, d23]; (try rfl)) ((from_z m mh ml wx w_m hmh hml).mono ?_))
        rintro e w' ⟨u_, rfl, hp, hb⟩
        exact ⟨_, rfl, own_pd _ rfl hp, hC.trans (hb.mono hC.size), hb⟩
      · obtain rfl := Option.some.inj ho
        have dg : v 17 = .bool true := hall ⟨17, .guard⟩ (by simp) rfl _ rfl
        have d24 : RN wx (v 24) (m) := hall ⟨24, .data⟩ (by simp) rfl _ rfl
        refine gw (by simp [Region.wanted, yielded, dg]) (g_call 23 _ _ [v 24] (kf23 _ _) (rfl) ((rfold_any _ m ml wx d24 fm hml).mono ?_))
        rintro e w' ⟨rfl, hb⟩
        exact ⟨_, rfl, own_pd _ rfl rfl, hC.trans (hb.mono hC.size), hb⟩
      · obtain rfl := Option.some.inj ho
        have dg : v 17 = .bool true := hall ⟨17, .guard⟩ (by simp) rfl _ rfl
        have d19 : v 19 = .int .u64 (ml) := hall ⟨19, .data⟩ (by simp) rfl _ rfl
        have d25 : v 25 = .int .u64 (ml) := hall ⟨25, .data⟩ (by simp) rfl _ rfl
        refine gw (by simp [Region.wanted, yielded, dg]) (g_ieq 22 _ _ .u64 _ _ true (show v 19 = _ from d19) (show v 25 = _ from d25) (decide_eq_true rfl) ?_)
        exact ⟨own_pd _ rfl rfl, hC, Below.refl _ _⟩
      · obtain rfl := Option.some.inj ho
        have d17 : v 17 = .bool true := hall ⟨17, .data⟩ (by simp) rfl _ rfl
        have d26 : v 26 = .bool true := hall ⟨26, .data⟩ (by simp) rfl _ rfl
        refine gw rfl (g_pickt _ _ _ _ (show v 17 = _ from d17) (show v 26 = _ from d26) ?_)
        exact ⟨own_pd _ rfl rfl, hC, Below.refl _ _⟩
      · obtain rfl := Option.some.inj ho
        have d27 : v 27 = .bool true := hall ⟨27, .data⟩ (by simp) rfl _ rfl
        refine gw rfl (g_move _ _ (show v 27 = _ from d27) ?_)
        exact ⟨own_pd _ rfl rfl, hC, Below.refl _ _⟩
      · obtain rfl := Option.some.inj ho
        have dg : v 28 = .bool true := hall ⟨28, .guard⟩ (by simp) rfl _ rfl
        refine gw (by simp [Region.wanted, yielded, dg]) (g_move _ _ rfl ?_)
        exact ⟨own_pd _ rfl rfl, hC, Below.refl _ _⟩
      · obtain rfl := Option.some.inj ho
        have dg : v 28 = .bool true := hall ⟨28, .guard⟩ (by simp) rfl _ rfl
        refine gw (by simp [Region.wanted, yielded, dg]) (g_move _ _ rfl ?_)
        exact ⟨own_pd _ rfl rfl, hC, Below.refl _ _⟩
      · obtain rfl := Option.some.inj ho
        have dg : v 28 = .bool true := hall ⟨28, .guard⟩ (by simp) rfl _ rfl
        have d29 : v 29 = .int .i64 (D) := hall ⟨29, .data⟩ (by simp) rfl _ rfl
        have d30 : v 30 = .int .i64 (D) := hall ⟨30, .data⟩ (by simp) rfl _ rfl
        refine gw (by simp [Region.wanted, yielded, dg]) (g_ieq 2 _ _ .i64 _ _ true (show v 29 = _ from d29) (show v 30 = _ from d30) (decide_eq_true rfl) ?_)
        exact ⟨own_pd _ rfl rfl, hC, Below.refl _ _⟩
      · obtain rfl := Option.some.inj ho
        have d28 : v 28 = .bool true := hall ⟨28, .data⟩ (by simp) rfl _ rfl
        have d31 : v 31 = .bool true := hall ⟨31, .data⟩ (by simp) rfl _ rfl
        refine gw rfl (g_pickt _ _ _ _ (show v 28 = _ from d28) (show v 31 = _ from d31) ?_)
        exact ⟨own_pd _ rfl rfl, hC, Below.refl _ _⟩
      · obtain rfl := Option.some.inj ho
        have d32 : v 32 = .bool true := hall ⟨32, .data⟩ (by simp) rfl _ rfl
        refine gw rfl (g_move _ _ (show v 32 = _ from d32) ?_)
        exact ⟨own_pd _ rfl rfl, hC, Below.refl _ _⟩
      · obtain rfl := Option.some.inj ho
        have dg : v 33 = .bool true := hall ⟨33, .guard⟩ (by simp) rfl _ rfl
        refine gw (by simp [Region.wanted, yielded, dg]) (g_move _ _ rfl ?_)
        exact ⟨own_pd _ rfl rfl, hC, Below.refl _ _⟩
      · obtain rfl := Option.some.inj ho
        have dg : v 33 = .bool true := hall ⟨33, .guard⟩ (by simp) rfl _ rfl
        refine gw (by simp [Region.wanted, yielded, dg]) (g_move _ _ rfl ?_)
        exact ⟨own_pd _ rfl rfl, hC, Below.refl _ _⟩
      · obtain rfl := Option.some.inj ho
        have dg : v 33 = .bool true := hall ⟨33, .guard⟩ (by simp) rfl _ rfl
        have d34 : v 34 = .int .i64 (0) := hall ⟨34, .data⟩ (by simp) rfl _ rfl
        have d35 : v 35 = .int .i64 (0) := hall ⟨35, .data⟩ (by simp) rfl _ rfl
        refine gw (by simp [Region.wanted, yielded, dg]) (g_ieq 27 _ _ .i64 _ _ true (show v 34 = _ from d34) (show v 35 = _ from d35) (by decide) ?_)
        exact ⟨own_pd _ rfl rfl, hC, Below.refl _ _⟩
      · obtain rfl := Option.some.inj ho
        have d33 : v 33 = .bool true := hall ⟨33, .data⟩ (by simp) rfl _ rfl
        have d36 : v 36 = .bool true := hall ⟨36, .data⟩ (by simp) rfl _ rfl
        refine gw rfl (g_pickt _ _ _ _ (show v 33 = _ from d33) (show v 36 = _ from d36) ?_)
        exact ⟨own_pd _ rfl rfl, hC, Below.refl _ _⟩
      · obtain rfl := Option.some.inj ho
        have d37 : v 37 = .bool true := hall ⟨37, .data⟩ (by simp) rfl _ rfl
        refine gw rfl (g_assign _ _ (show v 37 = _ from d37) ?_)
        exact ⟨own_pd _ rfl rfl, hC, Below.refl _ _⟩
      · simp at ho
    · simp only [full, Act.put, List.setIfInBounds_toArray, List.set_cons_succ, List.set_cons_zero, Nat.zero_add, Nat.reduceAdd]
      intro v w14 hC hall
      have d0 : v 0 = .int .u64 (a) := hall 0 _ (by decide) rfl
      (try rw [d0])
      clear d0
      have d1 : v 1 = .int .u64 (b) := hall 1 _ (by decide) rfl
      (try rw [d1])
      clear d1
      have d2 : v 2 = .int .i64 (F) := hall 2 _ (by decide) rfl
      (try rw [d2])
      clear d2
      have d3 : v 3 = .int .u64 (a) := hall 3 _ (by decide) rfl
      (try rw [d3])
      clear d3
      have d4 : v 4 = .int .u64 (b) := hall 4 _ (by decide) rfl
      (try rw [d4])
      clear d4
      have d5 : v 5 = .int .i64 (F) := hall 5 _ (by decide) rfl
      (try rw [d5])
      clear d5
      have d6 : v 6 = .bool true := hall 6 _ (by decide) rfl
      (try rw [d6])
      clear d6
      have d7 : v 7 = .bool true := hall 7 _ (by decide) rfl
      (try rw [d7])
      clear d7
      have d8 : v 8 = .int .u64 (a) := hall 8 _ (by decide) rfl
      (try rw [d8])
      clear d8
      have d9 : v 9 = .int .i64 (n) := hall 9 _ (by decide) rfl
      (try rw [d9])
      clear d9
      have d10 : v 10 = .int .u64 (S) := hall 10 _ (by decide) rfl
      (try rw [d10])
      clear d10
      have d11 : v 11 = .int .u64 (a) := hall 11 _ (by decide) rfl
      (try rw [d11])
      clear d11
      have d12 : v 12 = .int .i64 (n) := hall 12 _ (by decide) rfl
      (try rw [d12])
      clear d12
      have d13 : v 13 = .int .u64 (c) := hall 13 _ (by decide) rfl
      (try rw [d13])
      clear d13
      have d14 : v 14 = .int .u64 (S) := hall 14 _ (by decide) rfl
      (try rw [d14])
      clear d14
      have d15 : v 15 = .bool true := hall 15 _ (by decide) rfl
      (try rw [d15])
      clear d15
      have d16 : v 16 = .bool true := hall 16 _ (by decide) rfl
      (try rw [d16])
      clear d16
      have d17 : v 17 = .bool true := hall 17 _ (by decide) rfl
      (try rw [d17])
      clear d17
      have d18 : v 18 = .agg (nl (m)).toArray := hall 18 _ (by decide) rfl
      (try rw [d18])
      clear d18
      have d19 : v 19 = .int .u64 (ml) := hall 19 _ (by decide) rfl
      (try rw [d19])
      clear d19
      have d20 : v 20 = .pointer (some ⟨w.heap.size, 0, none⟩) := hall 20 _ (by decide) rfl
      (try rw [d20])
      clear d20
      have d21 : v 21 = .int .i64 (mh) := hall 21 _ (by decide) rfl
      (try rw [d21])
      clear d21
      have d22 : v 22 = .pointer (some ⟨w.heap.size, 1, none⟩) := hall 22 _ (by decide) rfl
      (try rw [d22])
      clear d22
      have d23 : v 23 = .int .u64 (ml) := hall 23 _ (by decide) rfl
      (try rw [d23])
      clear d23
      generalize v 24 = y2_24
      have d25 : v 25 = .int .u64 (ml) := hall 25 _ (by decide) rfl
      (try rw [d25])
      clear d25
      have d26 : v 26 = .bool true := hall 26 _ (by decide) rfl
      (try rw [d26])
      clear d26
      have d27 : v 27 = .bool true := hall 27 _ (by decide) rfl
      (try rw [d27])
      clear d27
      have d28 : v 28 = .bool true := hall 28 _ (by decide) rfl
      (try rw [d28])
      clear d28
      have d29 : v 29 = .int .i64 (D) := hall 29 _ (by decide) rfl
      (try rw [d29])
      clear d29
      have d30 : v 30 = .int .i64 (D) := hall 30 _ (by decide) rfl
      (try rw [d30])
      clear d30
      have d31 : v 31 = .bool true := hall 31 _ (by decide) rfl
      (try rw [d31])
      clear d31
      have d32 : v 32 = .bool true := hall 32 _ (by decide) rfl
      (try rw [d32])
      clear d32
      have d33 : v 33 = .bool true := hall 33 _ (by decide) rfl
      (try rw [d33])
      clear d33
      have d34 : v 34 = .int .i64 (0) := hall 34 _ (by decide) rfl
      (try rw [d34])
      clear d34
      have d35 : v 35 = .int .i64 (0) := hall 35 _ (by decide) rfl
      (try rw [d35])
      clear d35
      have d36 : v 36 = .bool true := hall 36 _ (by decide) rfl
      (try rw [d36])
      clear d36
      have d37 : v 37 = .bool true := hall 37 _ (by decide) rfl
      (try rw [d37])
      clear d37
      have d38 : v 38 = .bool true := hall 38 _ (by decide) rfl
      (try rw [d38])
      clear d38
      clear hall
      replace r_n33 := r_n33.below hC
      replace r_n34 := r_n34.below hC
      replace b_m := b_m.below hC b_m.lt
      replace b_q := b_q.below hC b_q.lt
      replace b_x := b_x.below hC b_x.lt
      replace b_g := b_g.below hC b_g.lt
      replace hB := hB.trans (hC.mono hB.size)
      clear hC
      go_wp2_with fail
      go_ret
      exact ⟨rfl, hB⟩

set_option maxRecDepth 10000 in
set_option maxHeartbeats 16000000 in
theorem walk00 (a : Int) (b : Int) (n : Int) (m : Int) (q : Int) (w_a : 0 ≤ a ∧ a < 18446744073709551616) (w_b : 0 ≤ b ∧ b < 18446744073709551616) (w_n : In64 n) (w_m : In128 m) (w_q : In128 q) (w : World) (G mh ml qh ql F c S : Int) (hG : Hid (nr a m = G)) (iG : Hid (¬ In128 (nr a m))) (fG : Few G 200) (fm : Few m 200) (hfi : Hid (decide (-((2 : Int) ^ 127) ≤ G ∧ G < (2 : Int) ^ 127) = false)) (hmh : Hid (m / 18446744073709551616 = mh)) (hml : Hid (m % 18446744073709551616 = ml)) (hqh : Hid (q / 18446744073709551616 = qh)) (hql : Hid (q % 18446744073709551616 = ql)) (jD : Hid (¬ In64 (m - q))) (hF : Hid (IntKind.i64.wrap (IntKind.u64.wrap (a - b)) = F)) (hc : Hid (IntKind.u64.wrap n = c)) (hS1 : Hid (IntKind.u64.wrap (a + IntKind.u64.wrap n) = S)) (hS2 : Hid (IntKind.u64.wrap (a + c) = S)) :
    Calls Try.prog 3 #[.int .u64 a, .int .u64 b, .int .i64 n, .agg (nl m).toArray, .agg (nl q).toArray] w fun e w' => e = .returned (.bool true) ∧ Below w.heap.size w w' := by
  go_enter Try.func3, Try.ntmps3
  go_wp2_with (first
    | ((with_reducible refine at_boxD 8 25 ?_); refine L_box 25 _ (nl (m)) rfl ?_; intro w1 t_ b_m; have l_m : w.heap.size ≤ w.heap.size := Nat.le_refl _; have hB : Below w.heap.size w w1 := t_.below (Below.refl _ _) (Nat.le_refl _); clear t_)
    | ((with_reducible refine at_boxD 9 25 ?_); refine L_box 25 _ (nl (q)) rfl ?_; intro w2 t_ b_q; have l_q : w.heap.size ≤ w1.heap.size := hB.size; have o_q := b_m.lt; replace b_m := t_.blk b_m (by omega); replace hB := t_.below hB l_q; clear t_))
  refine (awake_any w2).mono ?_
  rintro e w3 ⟨rfl, t_⟩
  replace b_m := b_m.below t_ b_m.lt
  replace b_q := b_q.below t_ b_q.lt
  replace hB := hB.trans (t_.mono hB.size)
  clear t_
  go_wp2_with (first
    | ((with_reducible refine at_loadD 24 25 ?_); refine L_load_all 25 _ (w.heap.size) (nl (m)) 25 _ rfl b_m Try.underlying25 rfl (szN 0) ?_))
  refine (near_over a m w3 w_m iG.out).mono ?_
  rintro e w4 ⟨rfl, t_⟩
  replace b_m := b_m.below t_ b_m.lt
  replace b_q := b_q.below t_ b_q.lt
  replace hB := hB.trans (t_.mono hB.size)
  clear t_
  go_wp2_with (first
    | ((with_reducible refine at_allocD 11 25 ?_); refine L_alloc 25 (nl (0)) zeroN ?_; intro w5 t_ b_x; have l_x : w.heap.size ≤ w4.heap.size := hB.size; have o_x := b_q.lt; replace b_m := t_.blk b_m (by omega); replace b_q := t_.blk b_q (by omega); replace hB := t_.below hB l_x; clear t_)
    | ((with_reducible refine at_storeX 11 25 ?_); refine L_store_all 25 _ _ (w4.heap.size) (nl (0)) _ 25 rfl rfl b_x (szN 0) (rfl) (one_nl _) ?_; have b0_x := b_x; clear b_x; intro w6 t_ b_x; replace b_m := t_.blk b_m (by omega); replace b_q := t_.blk b_q (by omega); replace hB := t_.below hB l_x; clear t_ b0_x)
    | ((with_reducible refine at_loadD 30 2 ?_); refine L_cell2 _ (w.heap.size) 0 (nl (m)) 25 (.int .i64 (mh)) rfl b_m (nl0 _ _ hmh.out) ?_)
    | ((with_reducible refine at_loadD 32 22 ?_); refine L_cell22 _ (w.heap.size) 1 (nl (m)) 25 (.int .u64 (ml)) rfl b_m (nl1 _ _ hml.out) ?_))
  refine (from_z m mh ml w6 w_m hmh hml).mono ?_
  rintro e w7 ⟨_, rfl, ⟨s_n33, v_n33, rfl, r_n33⟩, t_⟩
  replace b_m := b_m.below t_ b_m.lt
  replace b_q := b_q.below t_ b_q.lt
  replace b_x := b_x.below t_ b_x.lt
  replace hB := hB.trans (t_.mono hB.size)
  clear t_
  go_wp2_with fail
  refine (rnear_any _ a m G w7 ⟨_, _, rfl, r_n33⟩ w_m hG).mono ?_
  rintro e w8 ⟨_, rfl, ⟨s_n34, v_n34, rfl, r_n34⟩, t_⟩
  replace r_n33 := r_n33.below t_
  replace b_m := b_m.below t_ b_m.lt
  replace b_q := b_q.below t_ b_q.lt
  replace b_x := b_x.below t_ b_x.lt
  replace hB := hB.trans (t_.mono hB.size)
  clear t_
  go_wp2_with (first
    | ((with_reducible refine at_allocD 13 32 ?_); refine L_alloc 32 ([.bool false, .slice none 0 0]) zeroR ?_; intro w9 t_ b_g; have l_g : w.heap.size ≤ w8.heap.size := hB.size; have o_g := b_x.lt; replace r_n33 := r_n33.below t_.toBelow; replace r_n34 := r_n34.below t_.toBelow; replace b_m := t_.blk b_m (by omega); replace b_q := t_.blk b_q (by omega); replace b_x := t_.blk b_x (by omega); replace hB := t_.below hB l_g; clear t_)
    | ((with_reducible refine at_storeX 13 32 ?_); refine L_store_all 32 _ _ (w8.heap.size) ([.bool s_n34, v_n34]) _ 32 rfl rfl b_g (szR) (rfl) (one_rc _ _ r_n34.sl) ?_; have b0_g := b_g; clear b_g; intro w10 t_ b_g; replace r_n33 := r_n33.turn t_ b0_g (by decide); replace r_n34 := r_n34.turn t_ b0_g (by decide); replace b_m := t_.blk b_m (by omega); replace b_q := t_.blk b_q (by omega); replace b_x := t_.blk b_x (by omega); replace hB := t_.below hB l_g; clear t_ b0_g)
    | ((with_reducible refine at_loadD 35 32 ?_); refine L_load_all 32 _ (w8.heap.size) ([.bool s_n34, v_n34]) 32 _ rfl b_g Try.underlying32 rfl (szR) ?_))
  refine (fits_any _ G 127 w10 false ⟨_, _, rfl, r_n34⟩ fG hfi).mono ?_
  rintro e w11 ⟨rfl, t_⟩
  replace r_n33 := r_n33.below t_
  replace r_n34 := r_n34.below t_
  replace b_m := b_m.below t_ b_m.lt
  replace b_q := b_q.below t_ b_q.lt
  replace b_x := b_x.below t_ b_x.lt
  replace b_g := b_g.below t_ b_g.lt
  replace hB := hB.trans (t_.mono hB.size)
  clear t_
  go_wp2_with (first
    | ((with_reducible refine at_loadDG 41 ?_); refine L_give (by rfl) (g_load_all 25 _ (w4.heap.size) (nl (0)) 25 _ rfl b_x Try.underlying25 rfl (szN 0) ?_))
    | ((with_reducible refine at_binD 43 ?_); refine L_give (by rfl) (g_neqN _ _ (0) (0) true rfl rfl (decide_eq_true rfl) ?_))
    | ((with_reducible refine at_loadD 60 25 ?_); refine L_load_all 25 _ (w.heap.size) (nl (m)) 25 _ rfl b_m Try.underlying25 rfl (szN 0) ?_)
    | ((with_reducible refine at_loadD 61 25 ?_); refine L_load_all 25 _ (w1.heap.size) (nl (q)) 25 _ rfl b_q Try.underlying25 rfl (szN 0) ?_))
  refine (since_over m q w11 w_m w_q jD.out).mono ?_
  rintro e w12 ⟨rfl, t_⟩
  replace r_n33 := r_n33.below t_
  replace r_n34 := r_n34.below t_
  replace b_m := b_m.below t_ b_m.lt
  replace b_q := b_q.below t_ b_q.lt
  replace b_x := b_x.below t_ b_x.lt
  replace b_g := b_g.below t_ b_g.lt
  replace hB := hB.trans (t_.mono hB.size)
  clear t_
  go_wp2_with (first
    | ((with_reducible refine stop_region 12 ?_); intro X1 hX1))
  refine hX1.out ?_
  clear hX1
  refine wp_region_pred (by kernel_rfl) (by kernel_rfl) [.eq (.pointer (some ⟨w.heap.size, 0, none⟩)), .eq (.int .i64 (mh)), .eq (.pointer (some ⟨w.heap.size, 1, none⟩)), .eq (.int .u64 (ml)), .rn (m), .eq (.pointer (some ⟨w1.heap.size, 0, none⟩)), .eq (.int .i64 (qh)), .eq (.pointer (some ⟨w1.heap.size, 1, none⟩)), .eq (.int .u64 (ql)), .rn (q), .eq (.tuple #[.int .i64 (0), .int .i64 (6)]), .eq (.tuple #[.int .i64 (0), .int .i64 (6)]), .eq (.int .i64 (0)), .eq (.int .i64 (6)), .eq (.int .i64 (0)), .eq (.int .i64 (6))] (List.replicate 16 none) (fun wx => Below w12.heap.size w12 wx) ?_ ?_ ?_ ?_
  · exact nobs _ _
  · exact (Below.refl _ _).drew
  · simp only [full, Act.put, List.setIfInBounds_toArray, List.set_cons_succ, List.set_cons_zero, Nat.zero_add, Nat.reduceAdd]
    intro i o ho v wx hC hall
    rcases i with _ | _ | _ | _ | _ | _ | _ | _ | _ | _ | _ | _ | _ | _ | _ | _ | i
    · obtain rfl := Option.some.inj ho
      refine gw rfl (g_field0 _ _ _ rfl ?_)
      exact ⟨own_pd _ rfl rfl, hC, Below.refl _ _⟩
    · obtain rfl := Option.some.inj ho
      have d0 : v 0 = .pointer (some ⟨w.heap.size, 0, none⟩) := hall ⟨0, .data⟩ (by simp) rfl _ rfl
      refine gw rfl (g_cell2 _ (w.heap.size) 0 (nl (m)) 25 _ (show v 0 = _ from d0) (b_m.below hC b_m.lt) (nl0 _ _ hmh.out) ?_)
      exact ⟨own_pd _ rfl rfl, hC, Below.refl _ _⟩
    · obtain rfl := Option.some.inj ho
      refine gw rfl (g_field1 _ _ rfl ?_)
      exact ⟨own_pd _ rfl rfl, hC, Below.refl _ _⟩
    · obtain rfl := Option.some.inj ho
      have d2 : v 2 = .pointer (some ⟨w.heap.size, 1, none⟩) := hall ⟨2, .data⟩ (by simp) rfl _ rfl
      refine gw rfl (g_cell22 _ (w.heap.size) 1 (nl (m)) 25 _ (show v 2 = _ from d2) (b_m.below hC b_m.lt) (nl1 _ _ hml.out) ?_)
      exact ⟨own_pd _ rfl rfl, hC, Below.refl _ _⟩
    · obtain rfl := Option.some.inj ho
      have d1 : v 1 = .int .i64 (mh) := hall ⟨1, .data⟩ (by simp) rfl _ rfl
      have d3 : v 3 = .int .u64 (ml) := hall ⟨3, .data⟩ (by simp) rfl _ rfl
      refine gw rfl (g_call 14 _ _ [.int .i64 (mh), .int .u64 (ml)] (kf14 _ _) (by show ([v 1, v 3] : List Value) = _; rw [d1, d3]; (try rfl)) ((from_z m mh ml wx w_m hmh hml).mono ?_))
      rintro e w' ⟨u_, rfl, hp, hb⟩
      exact ⟨_, rfl, own_pd _ rfl hp, hC.trans (hb.mono hC.size), hb⟩
    · obtain rfl := Option.some.inj ho
      refine gw rfl (g_field0 _ _ _ rfl ?_)
      exact ⟨own_pd _ rfl rfl, hC, Below.refl _ _⟩
    · obtain rfl := Option.some.inj ho
      have d5 : v 5 = .pointer (some ⟨w1.heap.size, 0, none⟩) := hall ⟨5, .data⟩ (by simp) rfl _ rfl
      refine gw rfl (g_cell2 _ (w1.heap.size) 0 (nl (q)) 25 _ (show v 5 = _ from d5) (b_q.below hC b_q.lt) (nl0 _ _ hqh.out) ?_)
      exact ⟨own_pd _ rfl rfl, hC, Below.refl _ _⟩
    · obtain rfl := Option.some.inj ho
      refine gw rfl (g_field1 _ _ rfl ?_)
      exact ⟨own_pd _ rfl rfl, hC, Below.refl _ _⟩
    · obtain rfl := Option.some.inj ho
      have d7 : v 7 = .pointer (some ⟨w1.heap.size, 1, none⟩) := hall ⟨7, .data⟩ (by simp) rfl _ rfl
      refine gw rfl (g_cell22 _ (w1.heap.size) 1 (nl (q)) 25 _ (show v 7 = _ from d7) (b_q.below hC b_q.lt) (nl1 _ _ hql.out) ?_)
      exact ⟨own_pd _ rfl rfl, hC, Below.refl _ _⟩
    · obtain rfl := Option.some.inj ho
      have d6 : v 6 = .int .i64 (qh) := hall ⟨6, .data⟩ (by simp) rfl _ rfl
      have d8 : v 8 = .int .u64 (ql) := hall ⟨8, .data⟩ (by simp) rfl _ rfl
      refine gw rfl (g_call 14 _ _ [.int .i64 (qh), .int .u64 (ql)] (kf14 _ _) (by show ([v 6, v 8] : List Value) = _; rw [d6, d8]; (try rfl)) ((from_z q qh ql wx w_q hqh hql).mono ?_))
      rintro e w' ⟨u_, rfl, hp, hb⟩
      exact ⟨_, rfl, own_pd _ rfl hp, hC.trans (hb.mono hC.size), hb⟩
    · obtain rfl := Option.some.inj ho
      have d4 : RN wx (v 4) (m) := hall ⟨4, .data⟩ (by simp) rfl _ rfl
      have d9 : RN wx (v 9) (q) := hall ⟨9, .data⟩ (by simp) rfl _ rfl
      refine gw rfl (g_call 18 _ _ [v 4, v 9] (kf18 _ _) (rfl) ((rsince_over _ _ m q wx d4 d9 w_m w_q jD.out).mono ?_))
      rintro e w' ⟨rfl, hb⟩
      exact ⟨_, rfl, own_pd _ rfl rfl, hC.trans (hb.mono hC.size), hb⟩
    · obtain rfl := Option.some.inj ho
      have d10 : v 10 = .tuple #[.int .i64 (0), .int .i64 (6)] := hall ⟨10, .data⟩ (by simp) rfl _ rfl
      refine gw rfl (g_move _ _ (show v 10 = _ from d10) ?_)
      exact ⟨own_pd _ rfl rfl, hC, Below.refl _ _⟩
    · obtain rfl := Option.some.inj ho
      have d11 : v 11 = .tuple #[.int .i64 (0), .int .i64 (6)] := hall ⟨11, .data⟩ (by simp) rfl _ rfl
      refine gw rfl (g_extract _ _ 0 _ (show v 11 = _ from d11) rfl ?_)
      exact ⟨own_pd _ rfl rfl, hC, Below.refl _ _⟩
    · obtain rfl := Option.some.inj ho
      have d11 : v 11 = .tuple #[.int .i64 (0), .int .i64 (6)] := hall ⟨11, .data⟩ (by simp) rfl _ rfl
      refine gw rfl (g_extract _ _ 1 _ (show v 11 = _ from d11) rfl ?_)
      exact ⟨own_pd _ rfl rfl, hC, Below.refl _ _⟩
    · obtain rfl := Option.some.inj ho
      have d12 : v 12 = .int .i64 (0) := hall ⟨12, .data⟩ (by simp) rfl _ rfl
      refine gw rfl (g_assign _ _ (show v 12 = _ from d12) ?_)
      exact ⟨own_pd _ rfl rfl, hC, Below.refl _ _⟩
    · obtain rfl := Option.some.inj ho
      have d13 : v 13 = .int .i64 (6) := hall ⟨13, .data⟩ (by simp) rfl _ rfl
      refine gw rfl (g_assign _ _ (show v 13 = _ from d13) ?_)
      exact ⟨own_pd _ rfl rfl, hC, Below.refl _ _⟩
    · simp at ho
  · simp only [full, Act.put, List.setIfInBounds_toArray, List.set_cons_succ, List.set_cons_zero, Nat.zero_add, Nat.reduceAdd]
    intro v w13 hC hall
    have d0 : v 0 = .pointer (some ⟨w.heap.size, 0, none⟩) := hall 0 _ (by decide) rfl
    (try rw [d0])
    clear d0
    have d1 : v 1 = .int .i64 (mh) := hall 1 _ (by decide) rfl
    (try rw [d1])
    clear d1
    have d2 : v 2 = .pointer (some ⟨w.heap.size, 1, none⟩) := hall 2 _ (by decide) rfl
    (try rw [d2])
    clear d2
    have d3 : v 3 = .int .u64 (ml) := hall 3 _ (by decide) rfl
    (try rw [d3])
    clear d3
    generalize v 4 = y1_4
    have d5 : v 5 = .pointer (some ⟨w1.heap.size, 0, none⟩) := hall 5 _ (by decide) rfl
    (try rw [d5])
    clear d5
    have d6 : v 6 = .int .i64 (qh) := hall 6 _ (by decide) rfl
    (try rw [d6])
    clear d6
    have d7 : v 7 = .pointer (some ⟨w1.heap.size, 1, none⟩) := hall 7 _ (by decide) rfl
    (try rw [d7])
    clear d7
    have d8 : v 8 = .int .u64 (ql) := hall 8 _ (by decide) rfl
    (try rw [d8])
    clear d8
    generalize v 9 = y1_9
    have d10 : v 10 = .tuple #[.int .i64 (0), .int .i64 (6)] := hall 10 _ (by decide) rfl
    (try rw [d10])
    clear d10
    have d11 : v 11 = .tuple #[.int .i64 (0), .int .i64 (6)] := hall 11 _ (by decide) rfl
    (try rw [d11])
    clear d11
    have d12 : v 12 = .int .i64 (0) := hall 12 _ (by decide) rfl
    (try rw [d12])
    clear d12
    have d13 : v 13 = .int .i64 (6) := hall 13 _ (by decide) rfl
    (try rw [d13])
    clear d13
    have d14 : v 14 = .int .i64 (0) := hall 14 _ (by decide) rfl
    (try rw [d14])
    clear d14
    have d15 : v 15 = .int .i64 (6) := hall 15 _ (by decide) rfl
    (try rw [d15])
    clear d15
    clear hall
    replace r_n33 := r_n33.below hC
    replace r_n34 := r_n34.below hC
    replace b_m := b_m.below hC b_m.lt
    replace b_q := b_q.below hC b_q.lt
    replace b_x := b_x.below hC b_x.lt
    replace b_g := b_g.below hC b_g.lt
    replace hB := hB.trans (hC.mono hB.size)
    clear hC
    go_wp2_with (first
      | ((with_reducible refine stop_region 13 ?_); intro X2 hX2))
    refine hX2.out ?_
    clear hX2
    (try simp only [List.append_eq, List.cons_append, List.nil_append])
    refine wp_region_pred (by kernel_rfl) (by kernel_rfl) [.eq (.int .u64 (a)), .eq (.int .u64 (b)), .eq (.int .i64 (F)), .eq (.int .u64 (a)), .eq (.int .u64 (b)), .eq (.int .i64 (F)), .eq (.bool true), .eq (.bool true), .eq (.int .u64 (a)), .eq (.int .i64 (n)), .eq (.int .u64 (S)), .eq (.int .u64 (a)), .eq (.int .i64 (n)), .eq (.int .u64 (c)), .eq (.int .u64 (S)), .eq (.bool true), .eq (.bool true), .eq (.bool true), .eq (.agg (nl (m)).toArray), .eq (.int .u64 (ml)), .eq (.pointer (some ⟨w.heap.size, 0, none⟩)), .eq (.int .i64 (mh)), .eq (.pointer (some ⟨w.heap.size, 1, none⟩)), .eq (.int .u64 (ml)), .rn (m), .eq (.int .u64 (ml)), .eq (.bool true), .eq (.bool true), .eq (.bool true), .eq (.int .i64 (0)), .eq (.int .i64 (0)), .eq (.bool true), .eq (.bool true), .eq (.bool true), .eq (.int .i64 (6)), .eq (.int .i64 (6)), .eq (.bool true), .eq (.bool true), .eq (.bool true)] (List.replicate 39 none) (fun wx => Below w13.heap.size w13 wx) ?_ ?_ ?_ ?_
    · exact nobs _ _
    · exact (Below.refl _ _).drew
    · simp only [full, Act.put, List.setIfInBounds_toArray, List.set_cons_succ, List.set_cons_zero, Nat.zero_add, Nat.reduceAdd]
      intro i o ho v wx hC hall
      rcases i with _ | _ | _ | _ | _ | _ | _ | _ | _ | _ | _ | _ | _ | _ | _ | _ | _ | _ | _ | _ | _ | _ | _ | _ | _ | _ | _ | _ | _ | _ | _ | _ | _ | _ | _ | _ | _ | _ | _ | i
      · obtain rfl := Option.some.inj ho
        refine gw rfl (g_move _ _ rfl ?_)
        exact ⟨own_pd _ rfl rfl, hC, Below.refl _ _⟩
      · obtain rfl := Option.some.inj ho
        refine gw rfl (g_move _ _ rfl ?_)
        exact ⟨own_pd _ rfl rfl, hC, Below.refl _ _⟩
      · obtain rfl := Option.some.inj ho
        have d0 : v 0 = .int .u64 (a) := hall ⟨0, .data⟩ (by simp) rfl _ rfl
        have d1 : v 1 = .int .u64 (b) := hall ⟨1, .data⟩ (by simp) rfl _ rfl
        refine gw rfl (g_call 19 _ _ [.int .u64 (a), .int .u64 (b)] (kf19 _ _) (by show ([v 0, v 1] : List Value) = _; rw [d0, d1]; (try rfl)) ((diff_any a b F wx hF.out).mono ?_))
        rintro e w' ⟨rfl, rfl⟩
        exact ⟨_, rfl, own_pd _ rfl rfl, hC, Below.refl _ _⟩
      · obtain rfl := Option.some.inj ho
        refine gw rfl (g_move _ _ rfl ?_)
        exact ⟨own_pd _ rfl rfl, hC, Below.refl _ _⟩
      · obtain rfl := Option.some.inj ho
        refine gw rfl (g_move _ _ rfl ?_)
        exact ⟨own_pd _ rfl rfl, hC, Below.refl _ _⟩
      · obtain rfl := Option.some.inj ho
        have d3 : v 3 = .int .u64 (a) := hall ⟨3, .data⟩ (by simp) rfl _ rfl
        have d4 : v 4 = .int .u64 (b) := hall ⟨4, .data⟩ (by simp) rfl _ rfl
        refine gw rfl (g_call 20 _ _ [.int .u64 (a), .int .u64 (b)] (kf20 _ _) (by show ([v 3, v 4] : List Value) = _; rw [d3, d4]; (try rfl)) ((rdiff_any a b F wx hF.out).mono ?_))
        rintro e w' ⟨rfl, rfl⟩
        exact ⟨_, rfl, own_pd _ rfl rfl, hC, Below.refl _ _⟩
      · obtain rfl := Option.some.inj ho
        have d2 : v 2 = .int .i64 (F) := hall ⟨2, .data⟩ (by simp) rfl _ rfl
        have d5 : v 5 = .int .i64 (F) := hall ⟨5, .data⟩ (by simp) rfl _ rfl
        refine gw rfl (g_ieq 2 _ _ .i64 _ _ true (show v 2 = _ from d2) (show v 5 = _ from d5) (decide_eq_true rfl) ?_)
        exact ⟨own_pd _ rfl rfl, hC, Below.refl _ _⟩
      · obtain rfl := Option.some.inj ho
        have d6 : v 6 = .bool true := hall ⟨6, .data⟩ (by simp) rfl _ rfl
        refine gw rfl (g_move _ _ (show v 6 = _ from d6) ?_)
        exact ⟨own_pd _ rfl rfl, hC, Below.refl _ _⟩
      · obtain rfl := Option.some.inj ho
        have dg : v 7 = .bool true := hall ⟨7, .guard⟩ (by simp) rfl _ rfl
        refine gw (by simp [Region.wanted, yielded, dg]) (g_move _ _ rfl ?_)
        exact ⟨own_pd _ rfl rfl, hC, Below.refl _ _⟩
      · obtain rfl := Option.some.inj ho
        have dg : v 7 = .bool true := hall ⟨7, .guard⟩ (by simp) rfl _ rfl
        refine gw (by simp [Region.wanted, yielded, dg]) (g_move _ _ rfl ?_)
        exact ⟨own_pd _ rfl rfl, hC, Below.refl _ _⟩
      · obtain rfl := Option.some.inj ho
        have dg : v 7 = .bool true := hall ⟨7, .guard⟩ (by simp) rfl _ rfl
        have d8 : v 8 = .int .u64 (a) := hall ⟨8, .data⟩ (by simp) rfl _ rfl
        have d9 : v 9 = .int .i64 (n) := hall ⟨9, .data⟩ (by simp) rfl _ rfl
        refine gw (by simp [Region.wanted, yielded, dg]) (g_call 21 _ _ [.int .u64 (a), .int .i64 (n)] (kf21 _ _) (by show ([v 8, v 9] : List Value) = _; rw [d8, d9]; (try rfl)) ((sadd_any a n S wx hS1.out).mono ?_))
        rintro e w' ⟨rfl, rfl⟩
        exact ⟨_, rfl, own_pd _ rfl rfl, hC, Below.refl _ _⟩
      · obtain rfl := Option.some.inj ho
        have dg : v 7 = .bool true := hall ⟨7, .guard⟩ (by simp) rfl _ rfl
        refine gw (by simp [Region.wanted, yielded, dg]) (g_move _ _ rfl ?_)
        exact ⟨own_pd _ rfl rfl, hC, Below.refl _ _⟩
      · obtain rfl := Option.some.inj ho
        have dg : v 7 = .bool true := hall ⟨7, .guard⟩ (by simp) rfl _ rfl
        refine gw (by simp [Region.wanted, yielded, dg]) (g_move _ _ rfl ?_)
        exact ⟨own_pd _ rfl rfl, hC, Below.refl _ _⟩
      · obtain rfl := Option.some.inj ho
        have dg : v 7 = .bool true := hall ⟨7, .guard⟩ (by simp) rfl _ rfl
        have d12 : v 12 = .int .i64 (n) := hall ⟨12, .data⟩ (by simp) rfl _ rfl
        refine gw (by simp [Region.wanted, yielded, dg]) (g_cast _ _ _ (show v 12 = _ from d12) (hc.out) ?_)
        exact ⟨own_pd _ rfl rfl, hC, Below.refl _ _⟩
      · obtain rfl := Option.some.inj ho
        have dg : v 7 = .bool true := hall ⟨7, .guard⟩ (by simp) rfl _ rfl
        have d11 : v 11 = .int .u64 (a) := hall ⟨11, .data⟩ (by simp) rfl _ rfl
        have d13 : v 13 = .int .u64 (c) := hall ⟨13, .data⟩ (by simp) rfl _ rfl
        refine gw (by simp [Region.wanted, yielded, dg]) (g_iadd 23 _ _ .u64 _ _ _ (show v 11 = _ from d11) (show v 13 = _ from d13) (hS2.out) ?_)
        exact ⟨own_pd _ rfl rfl, hC, Below.refl _ _⟩
      · obtain rfl := Option.some.inj ho
        have dg : v 7 = .bool true := hall ⟨7, .guard⟩ (by simp) rfl _ rfl
        have d10 : v 10 = .int .u64 (S) := hall ⟨10, .data⟩ (by simp) rfl _ rfl
        have d14 : v 14 = .int .u64 (S) := hall ⟨14, .data⟩ (by simp) rfl _ rfl
        refine gw (by simp [Region.wanted, yielded, dg]) (g_ieq 23 _ _ .u64 _ _ true (show v 10 = _ from d10) (show v 14 = _ from d14) (decide_eq_true rfl) ?_)
        exact ⟨own_pd _ rfl rfl, hC, Below.refl _ _⟩
      · obtain rfl := Option.some.inj ho
        have d7 : v 7 = .bool true := hall ⟨7, .data⟩ (by simp) rfl _ rfl
        have d15 : v 15 = .bool true := hall ⟨15, .data⟩ (by simp) rfl _ rfl
        refine gw rfl (g_pickt _ _ _ _ (show v 7 = _ from d7) (show v 15 = _ from d15) ?_)
        exact ⟨own_pd _ rfl rfl, hC, Below.refl _ _⟩
      · obtain rfl := Option.some.inj ho
        have d16 : v 16 = .bool true := hall ⟨16, .data⟩ (by simp) rfl _ rfl
        refine gw rfl (g_move _ _ (show v 16 = _ from d16) ?_)
        exact ⟨own_pd _ rfl rfl, hC, Below.refl _ _⟩
      · obtain rfl := Option.some.inj ho
        have dg : v 17 = .bool true := hall ⟨17, .guard⟩ (by simp) rfl _ rfl
        refine gw (by simp [Region.wanted, yielded, dg]) (g_load_all 25 _ (w.heap.size) (nl (m)) 25 _ rfl (b_m.below hC b_m.lt) Try.underlying25 rfl (szN 0) ?_)
        exact ⟨own_pd _ rfl rfl, hC, Below.refl _ _⟩
      · obtain rfl := Option.some.inj ho
        have dg : v 17 = .bool true := hall ⟨17, .guard⟩ (by simp) rfl _ rfl
        have d18 : v 18 = .agg (nl (m)).toArray := hall ⟨18, .data⟩ (by simp) rfl _ rfl
        refine gw (by simp [Region.wanted, yielded, dg]) (g_call 22 _ _ [.agg (nl (m)).toArray] (kf22 _ _) (by show ([v 18] : List Value) = _; rw [d18]; (try rfl)) ((fold_any m ml wx hml.out).mono ?_))
        rintro e w' ⟨rfl, hb⟩
        exact ⟨_, rfl, own_pd _ rfl rfl, hC.trans (hb.mono hC.size), hb⟩
      · obtain rfl := Option.some.inj ho
        have dg : v 17 = .bool true := hall ⟨17, .guard⟩ (by simp) rfl _ rfl
        refine gw (by simp [Region.wanted, yielded, dg]) (g_field0 _ _ _ rfl ?_)
        exact ⟨own_pd _ rfl rfl, hC, Below.refl _ _⟩
      · obtain rfl := Option.some.inj ho
        have dg : v 17 = .bool true := hall ⟨17, .guard⟩ (by simp) rfl _ rfl
        have d20 : v 20 = .pointer (some ⟨w.heap.size, 0, none⟩) := hall ⟨20, .data⟩ (by simp) rfl _ rfl
        refine gw (by simp [Region.wanted, yielded, dg]) (g_cell2 _ (w.heap.size) 0 (nl (m)) 25 _ (show v 20 = _ from d20) (b_m.below hC b_m.lt) (nl0 _ _ hmh.out) ?_)
        exact ⟨own_pd _ rfl rfl, hC, Below.refl _ _⟩
      · obtain rfl := Option.some.inj ho
        have dg : v 17 = .bool true := hall ⟨17, .guard⟩ (by simp) rfl _ rfl
        refine gw (by simp [Region.wanted, yielded, dg]) (g_field1 _ _ rfl ?_)
        exact ⟨own_pd _ rfl rfl, hC, Below.refl _ _⟩
      · obtain rfl := Option.some.inj ho
        have dg : v 17 = .bool true := hall ⟨17, .guard⟩ (by simp) rfl _ rfl
        have d22 : v 22 = .pointer (some ⟨w.heap.size, 1, none⟩) := hall ⟨22, .data⟩ (by simp) rfl _ rfl
        refine gw (by simp [Region.wanted, yielded, dg]) (g_cell22 _ (w.heap.size) 1 (nl (m)) 25 _ (show v 22 = _ from d22) (b_m.below hC b_m.lt) (nl1 _ _ hml.out) ?_)
        exact ⟨own_pd _ rfl rfl, hC, Below.refl _ _⟩
      · obtain rfl := Option.some.inj ho
        have dg : v 17 = .bool true := hall ⟨17, .guard⟩ (by simp) rfl _ rfl
        have d21 : v 21 = .int .i64 (mh) := hall ⟨21, .data⟩ (by simp) rfl _ rfl
        have d23 : v 23 = .int .u64 (ml) := hall ⟨23, .data⟩ (by simp) rfl _ rfl
        refine gw (by simp [Region.wanted, yielded, dg]) (g_call 14 _ _ [.int .i64 (mh), .int .u64 (ml)] (kf14 _ _) (by show ([v 21, v 23] : List Value) = _; rw [d21, d23]; (try rfl)) ((from_z m mh ml wx w_m hmh hml).mono ?_))
        rintro e w' ⟨u_, rfl, hp, hb⟩
        exact ⟨_, rfl, own_pd _ rfl hp, hC.trans (hb.mono hC.size), hb⟩
      · obtain rfl := Option.some.inj ho
        have dg : v 17 = .bool true := hall ⟨17, .guard⟩ (by simp) rfl _ rfl
        have d24 : RN wx (v 24) (m) := hall ⟨24, .data⟩ (by simp) rfl _ rfl
        refine gw (by simp [Region.wanted, yielded, dg]) (g_call 23 _ _ [v 24] (kf23 _ _) (rfl) ((rfold_any _ m ml wx d24 fm hml).mono ?_))
        rintro e w' ⟨rfl, hb⟩
        exact ⟨_, rfl, own_pd _ rfl rfl, hC.trans (hb.mono hC.size), hb⟩
      · obtain rfl := Option.some.inj ho
        have dg : v 17 = .bool true := hall ⟨17, .guard⟩ (by simp) rfl _ rfl
        have d19 : v 19 = .int .u64 (ml) := hall ⟨19, .data⟩ (by simp) rfl _ rfl
        have d25 : v 25 = .int .u64 (ml) := hall ⟨25, .data⟩ (by simp) rfl _ rfl
        refine gw (by simp [Region.wanted, yielded, dg]) (g_ieq 22 _ _ .u64 _ _ true (show v 19 = _ from d19) (show v 25 = _ from d25) (decide_eq_true rfl) ?_)
        exact ⟨own_pd _ rfl rfl, hC, Below.refl _ _⟩
      · obtain rfl := Option.some.inj ho
        have d17 : v 17 = .bool true := hall ⟨17, .data⟩ (by simp) rfl _ rfl
        have d26 : v 26 = .bool true := hall ⟨26, .data⟩ (by simp) rfl _ rfl
        refine gw rfl (g_pickt _ _ _ _ (show v 17 = _ from d17) (show v 26 = _ from d26) ?_)
        exact ⟨own_pd _ rfl rfl, hC, Below.refl _ _⟩
      · obtain rfl := Option.some.inj ho
        have d27 : v 27 = .bool true := hall ⟨27, .data⟩ (by simp) rfl _ rfl
        refine gw rfl (g_move _ _ (show v 27 = _ from d27) ?_)
        exact ⟨own_pd _ rfl rfl, hC, Below.refl _ _⟩
      · obtain rfl := Option.some.inj ho
        have dg : v 28 = .bool true := hall ⟨28, .guard⟩ (by simp) rfl _ rfl
        refine gw (by simp [Region.wanted, yielded, dg]) (g_move _ _ rfl ?_)
        exact ⟨own_pd _ rfl rfl, hC, Below.refl _ _⟩
      · obtain rfl := Option.some.inj ho
        have dg : v 28 = .bool true := hall ⟨28, .guard⟩ (by simp) rfl _ rfl
        refine gw (by simp [Region.wanted, yielded, dg]) (g_move _ _ rfl ?_)
        exact ⟨own_pd _ rfl rfl, hC, Below.refl _ _⟩
      · obtain rfl := Option.some.inj ho
        have dg : v 28 = .bool true := hall ⟨28, .guard⟩ (by simp) rfl _ rfl
        have d29 : v 29 = .int .i64 (0) := hall ⟨29, .data⟩ (by simp) rfl _ rfl
        have d30 : v 30 = .int .i64 (0) := hall ⟨30, .data⟩ (by simp) rfl _ rfl
        refine gw (by simp [Region.wanted, yielded, dg]) (g_ieq 2 _ _ .i64 _ _ true (show v 29 = _ from d29) (show v 30 = _ from d30) (by decide) ?_)
        exact ⟨own_pd _ rfl rfl, hC, Below.refl _ _⟩
      · obtain rfl := Option.some.inj ho
        have d28 : v 28 = .bool true := hall ⟨28, .data⟩ (by simp) rfl _ rfl
        have d31 : v 31 = .bool true := hall ⟨31, .data⟩ (by simp) rfl _ rfl
        refine gw rfl (g_pickt _ _ _ _ (show v 28 = _ from d28) (show v 31 = _ from d31) ?_)
        exact ⟨own_pd _ rfl rfl, hC, Below.refl _ _⟩
      · obtain rfl := Option.some.inj ho
        have d32 : v 32 = .bool true := hall ⟨32, .data⟩ (by simp) rfl _ rfl
        refine gw rfl (g_move _ _ (show v 32 = _ from d32) ?_)
        exact ⟨own_pd _ rfl rfl, hC, Below.refl _ _⟩
      · obtain rfl := Option.some.inj ho
        have dg : v 33 = .bool true := hall ⟨33, .guard⟩ (by simp) rfl _ rfl
        refine gw (by simp [Region.wanted, yielded, dg]) (g_move _ _ rfl ?_)
        exact ⟨own_pd _ rfl rfl, hC, Below.refl _ _⟩
      · obtain rfl := Option.some.inj ho
        have dg : v 33 = .bool true := hall ⟨33, .guard⟩ (by simp) rfl _ rfl
        refine gw (by simp [Region.wanted, yielded, dg]) (g_move _ _ rfl ?_)
        exact ⟨own_pd _ rfl rfl, hC, Below.refl _ _⟩
      · obtain rfl := Option.some.inj ho
        have dg : v 33 = .bool true := hall ⟨33, .guard⟩ (by simp) rfl _ rfl
        have d34 : v 34 = .int .i64 (6) := hall ⟨34, .data⟩ (by simp) rfl _ rfl
        have d35 : v 35 = .int .i64 (6) := hall ⟨35, .data⟩ (by simp) rfl _ rfl
        refine gw (by simp [Region.wanted, yielded, dg]) (g_ieq 27 _ _ .i64 _ _ true (show v 34 = _ from d34) (show v 35 = _ from d35) (by decide) ?_)
        exact ⟨own_pd _ rfl rfl, hC, Below.refl _ _⟩
      · obtain rfl := Option.some.inj ho
        have d33 : v 33 = .bool true := hall ⟨33, .data⟩ (by simp) rfl _ rfl
        have d36 : v 36 = .bool true := hall ⟨36, .data⟩ (by simp) rfl _ rfl
        refine gw rfl (g_pickt _ _ _ _ (show v 33 = _ from d33) (show v 36 = _ from d36) ?_)
        exact ⟨own_pd _ rfl rfl, hC, Below.refl _ _⟩
      · obtain rfl := Option.some.inj ho
        have d37 : v 37 = .bool true := hall ⟨37, .data⟩ (by simp) rfl _ rfl
        refine gw rfl (g_assign _ _ (show v 37 = _ from d37) ?_)
        exact ⟨own_pd _ rfl rfl, hC, Below.refl _ _⟩
      · simp at ho
    · simp only [full, Act.put, List.setIfInBounds_toArray, List.set_cons_succ, List.set_cons_zero, Nat.zero_add, Nat.reduceAdd]
      intro v w14 hC hall
      have d0 : v 0 = .int .u64 (a) := hall 0 _ (by decide) rfl
      (try rw [d0])
      clear d0
      have d1 : v 1 = .int .u64 (b) := hall 1 _ (by decide) rfl
      (try rw [d1])
      clear d1
      have d2 : v 2 = .int .i64 (F) := hall 2 _ (by decide) rfl
      (try rw [d2])
      clear d2
      have d3 : v 3 = .int .u64 (a) := hall 3 _ (by decide) rfl
      (try rw [d3])
      clear d3
      have d4 : v 4 = .int .u64 (b) := hall 4 _ (by decide) rfl
      (try rw [d4])
      clear d4
      have d5 : v 5 = .int .i64 (F) := hall 5 _ (by decide) rfl
      (try rw [d5])
      clear d5
      have d6 : v 6 = .bool true := hall 6 _ (by decide) rfl
      (try rw [d6])
      clear d6
      have d7 : v 7 = .bool true := hall 7 _ (by decide) rfl
      (try rw [d7])
      clear d7
      have d8 : v 8 = .int .u64 (a) := hall 8 _ (by decide) rfl
      (try rw [d8])
      clear d8
      have d9 : v 9 = .int .i64 (n) := hall 9 _ (by decide) rfl
      (try rw [d9])
      clear d9
      have d10 : v 10 = .int .u64 (S) := hall 10 _ (by decide) rfl
      (try rw [d10])
      clear d10
      have d11 : v 11 = .int .u64 (a) := hall 11 _ (by decide) rfl
      (try rw [d11])
      clear d11
      have d12 : v 12 = .int .i64 (n) := hall 12 _ (by decide) rfl
      (try rw [d12])
      clear d12
      have d13 : v 13 = .int .u64 (c) := hall 13 _ (by decide) rfl
      (try rw [d13])
      clear d13
      have d14 : v 14 = .int .u64 (S) := hall 14 _ (by decide) rfl
      (try rw [d14])
      clear d14
      have d15 : v 15 = .bool true := hall 15 _ (by decide) rfl
      (try rw [d15])
      clear d15
      have d16 : v 16 = .bool true := hall 16 _ (by decide) rfl
      (try rw [d16])
      clear d16
      have d17 : v 17 = .bool true := hall 17 _ (by decide) rfl
      (try rw [d17])
      clear d17
      have d18 : v 18 = .agg (nl (m)).toArray := hall 18 _ (by decide) rfl
      (try rw [d18])
      clear d18
      have d19 : v 19 = .int .u64 (ml) := hall 19 _ (by decide) rfl
      (try rw [d19])
      clear d19
      have d20 : v 20 = .pointer (some ⟨w.heap.size, 0, none⟩) := hall 20 _ (by decide) rfl
      (try rw [d20])
      clear d20
      have d21 : v 21 = .int .i64 (mh) := hall 21 _ (by decide) rfl
      (try rw [d21])
      clear d21
      have d22 : v 22 = .pointer (some ⟨w.heap.size, 1, none⟩) := hall 22 _ (by decide) rfl
      (try rw [d22])
      clear d22
      have d23 : v 23 = .int .u64 (ml) := hall 23 _ (by decide) rfl
      (try rw [d23])
      clear d23
      generalize v 24 = y2_24
      have d25 : v 25 = .int .u64 (ml) := hall 25 _ (by decide) rfl
      (try rw [d25])
      clear d25
      have d26 : v 26 = .bool true := hall 26 _ (by decide) rfl
      (try rw [d26])
      clear d26
      have d27 : v 27 = .bool true := hall 27 _ (by decide) rfl
      (try rw [d27])
      clear d27
      have d28 : v 28 = .bool true := hall 28 _ (by decide) rfl
      (try rw [d28])
      clear d28
      have d29 : v 29 = .int .i64 (0) := hall 29 _ (by decide) rfl
      (try rw [d29])
      clear d29
      have d30 : v 30 = .int .i64 (0) := hall 30 _ (by decide) rfl
      (try rw [d30])
      clear d30
      have d31 : v 31 = .bool true := hall 31 _ (by decide) rfl
      (try rw [d31])
      clear d31
      have d32 : v 32 = .bool true := hall 32 _ (by decide) rfl
      (try rw [d32])
      clear d32
      have d33 : v 33 = .bool true := hall 33 _ (by decide) rfl
      (try rw [d33])
      clear d33
      have d34 : v 34 = .int .i64 (6) := hall 34 _ (by decide) rfl
      (try rw [d34])
      clear d34
      have d35 : v 35 = .int .i64 (6) := hall 35 _ (by decide) rfl
      (try rw [d35])
      clear d35
      have d36 : v 36 = .bool true := hall 36 _ (by decide) rfl
      (try rw [d36])
      clear d36
      have d37 : v 37 = .bool true := hall 37 _ (by decide) rfl
      (try rw [d37])
      clear d37
      have d38 : v 38 = .bool true := hall 38 _ (by decide) rfl
      (try rw [d38])
      clear d38
      clear hall
      replace r_n33 := r_n33.below hC
      replace r_n34 := r_n34.below hC
      replace b_m := b_m.below hC b_m.lt
      replace b_q := b_q.below hC b_q.lt
      replace b_x := b_x.below hC b_x.lt
      replace b_g := b_g.below hC b_g.lt
      replace hB := hB.trans (hC.mono hB.size)
      clear hC
      go_wp2_with fail
      go_ret
      exact ⟨rfl, hB⟩

theorem walk (a : Int) (b : Int) (n : Int) (m : Int) (q : Int) (w_a : 0 ≤ a ∧ a < 18446744073709551616) (w_b : 0 ≤ b ∧ b < 18446744073709551616) (w_n : In64 n) (w_m : In128 m) (w_q : In128 q) (w : World) :
    Calls Try.prog 3 #[.int .u64 a, .int .u64 b, .int .i64 n, .agg (nl m).toArray, .agg (nl q).toArray] w fun e w' => e = .returned (.bool true) ∧ Below w.heap.size w w' := by
  have hm := w_m
  have hq := w_q
  unfold In128 at hm hq
  have hg : -340282366920938463463374607431768211456 ≤ nr a m ∧ nr a m ≤ 340282366920938463463374607431768211456 := by unfold nr; split <;> omega
  have fG : Few (nr a m) 200 := few128 _ hg
  have fm : Few m 200 := few128 _ (by omega)
  by_cases hG : In128 (nr a m) <;> by_cases jD : In64 (m - q)
  · exact walk11 a b n m q w_a w_b w_n w_m w_q w (nr a m) (m - q) _ _ _ _ _ _ _ rfl hG fG fm (decide_eq_true hG) rfl rfl rfl rfl rfl jD rfl rfl rfl rfl
  · exact walk10 a b n m q w_a w_b w_n w_m w_q w (nr a m) _ _ _ _ _ _ _ rfl hG fG fm (decide_eq_true hG) rfl rfl rfl rfl jD rfl rfl rfl rfl
  · exact walk01 a b n m q w_a w_b w_n w_m w_q w (nr a m) (m - q) _ _ _ _ _ _ _ rfl hG fG fm (decide_eq_false hG) rfl rfl rfl rfl rfl jD rfl rfl rfl rfl
  · exact walk00 a b n m q w_a w_b w_n w_m w_q w (nr a m) _ _ _ _ _ _ _ rfl hG fG fm (decide_eq_false hG) rfl rfl rfl rfl jD rfl rfl rfl rfl

end Go.Proofs.Ytpeiboehdjhimaa.stampTells
