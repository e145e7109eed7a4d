/- WideAdds: the walk. -/
import Derived.Test.YtkgcnbmnhbmdiaaWide6
import Derived.Test.YtkgcnbmnhbmdiaaRefSame
namespace Go.Proofs.Ytkgcnbmnhbmdiaa.wideAdds
open Go Go.RowKit
set_option linter.unusedVariables false

set_option maxRecDepth 10000 in
set_option maxHeartbeats 16000000 in
theorem walk111 (a : Int) (b : Int) (w_a : In128 a) (w_b : In128 b) (w : World) (R : Int) (hR : Hid (cmpI a b = R)) (fa : Few a 200) (fb : Few b 200) (fnb : Few (-b) 200) (fs : Few (a + b) 200) (fd : Few (a - b) 200) (hIn : In64 a) (hAd : In128 (a + b)) (hSu : In128 (a - b)) :
    Calls Try.prog 3 #[.agg (nl a).toArray, .agg (nl b).toArray] w fun e w' => e = .returned (.bool true) ∧ Below w.heap.size w w' := by
  have hab : Hid (a + -b = a - b) := by show _ = _; omega
  have hfi : Hid (decide (-((2 : Int) ^ 63) ≤ a ∧ a < (2 : Int) ^ 63) = true) := decide_eq_true hIn
  go_enter Try.func3, Try.ntmps3
  go_wp2_with (first
    | ((with_reducible refine at_boxD 2 24 ?_); refine L_box 24 _ (nl (a)) rfl ?_; intro w1 t_ b_a; have l_a : w.heap.size ≤ w.heap.size := Nat.le_refl _; have hB : Below w.heap.size w w1 := t_.below (Below.refl _ _) (Nat.le_refl _); clear t_)
    | ((with_reducible refine at_boxD 3 24 ?_); refine L_box 24 _ (nl (b)) rfl ?_; intro w2 t_ b_b; have l_b : w.heap.size ≤ w1.heap.size := hB.size; have o_b := b_a.lt; replace b_a := t_.blk b_a (by omega); replace hB := t_.below hB l_b; clear t_))
  refine (awake_any w2).mono ?_
  rintro e w3 ⟨rfl, t_⟩
  replace b_a := b_a.below t_ b_a.lt
  replace b_b := b_b.below t_ b_b.lt
  replace hB := hB.trans (t_.mono hB.size)
  clear t_
  go_wp2_with (first
    | ((with_reducible refine at_loadD 14 24 ?_); refine L_load_all 24 _ (w.heap.size) (nl (a)) 24 _ rfl b_a Try.underlying24 rfl (sz24 0) ?_)
    | ((with_reducible refine at_loadD 15 24 ?_); refine L_load_all 24 _ (w1.heap.size) (nl (b)) 24 _ rfl b_b Try.underlying24 rfl (sz24 0) ?_))
  refine (add_ok a b w3 w_a w_b hAd).mono ?_
  rintro e w4 ⟨rfl, t_⟩
  replace b_a := b_a.below t_ b_a.lt
  replace b_b := b_b.below t_ b_b.lt
  replace hB := hB.trans (t_.mono hB.size)
  clear t_
  go_wp2_with (first
    | ((with_reducible refine at_allocD 5 24 ?_); refine L_alloc 24 (nl (0)) zero24 ?_; intro w5 t_ b_s; have l_s : w.heap.size ≤ w4.heap.size := hB.size; have o_s := b_b.lt; replace b_a := t_.blk b_a (by omega); replace b_b := t_.blk b_b (by omega); replace hB := t_.below hB l_s; clear t_)
    | ((with_reducible refine at_storeX 5 24 ?_); refine L_store_all 24 _ _ (w4.heap.size) (nl (a + b)) _ 24 rfl rfl b_s (sz24 0) (rfl) (one_nl _) ?_; have b0_s := b_s; clear b_s; intro w6 t_ b_s; replace b_a := t_.blk b_a (by omega); replace b_b := t_.blk b_b (by omega); replace hB := t_.below hB l_s; clear t_ b0_s)
    | ((with_reducible refine at_loadD 20 24 ?_); refine L_load_all 24 _ (w.heap.size) (nl (a)) 24 _ rfl b_a Try.underlying24 rfl (sz24 0) ?_)
    | ((with_reducible refine at_loadD 21 24 ?_); refine L_load_all 24 _ (w1.heap.size) (nl (b)) 24 _ rfl b_b Try.underlying24 rfl (sz24 0) ?_))
  refine (sub_ok a b w6 w_a w_b hSu).mono ?_
  rintro e w7 ⟨rfl, t_⟩
  replace b_a := b_a.below t_ b_a.lt
  replace b_b := b_b.below t_ b_b.lt
  replace b_s := b_s.below t_ b_s.lt
  replace hB := hB.trans (t_.mono hB.size)
  clear t_
  go_wp2_with (first
    | ((with_reducible refine at_allocD 7 24 ?_); refine L_alloc 24 (nl (0)) zero24 ?_; intro w8 t_ b_d; have l_d : w.heap.size ≤ w7.heap.size := hB.size; have o_d := b_s.lt; replace b_a := t_.blk b_a (by omega); replace b_b := t_.blk b_b (by omega); replace b_s := t_.blk b_s (by omega); replace hB := t_.below hB l_d; clear t_)
    | ((with_reducible refine at_storeX 7 24 ?_); refine L_store_all 24 _ _ (w7.heap.size) (nl (a - b)) _ 24 rfl rfl b_d (sz24 0) (rfl) (one_nl _) ?_; have b0_d := b_d; clear b_d; intro w9 t_ b_d; replace b_a := t_.blk b_a (by omega); replace b_b := t_.blk b_b (by omega); replace b_s := t_.blk b_s (by omega); replace hB := t_.below hB l_d; clear t_ b0_d)
    | ((with_reducible refine at_loadD 26 24 ?_); refine L_load_all 24 _ (w.heap.size) (nl (a)) 24 _ rfl b_a Try.underlying24 rfl (sz24 0) ?_))
  refine (int_ok a w9 hIn).mono ?_
  rintro e w10 ⟨rfl, t_⟩
  replace b_a := b_a.below t_ b_a.lt
  replace b_b := b_b.below t_ b_b.lt
  replace b_s := b_s.below t_ b_s.lt
  replace b_d := b_d.below t_ b_d.lt
  replace hB := hB.trans (t_.mono hB.size)
  clear t_
  go_wp2_with (first
    | ((with_reducible refine stop_region 6 ?_); intro X1 hX1))
  refine hX1.out ?_
  clear hX1
  refine wp_region_pred (by kernel_rfl) (by kernel_rfl) [.eq (.agg (nl (a)).toArray), .rn (a), .eq (.bool true), .eq (.int .i64 (0)), .eq (.bool true), .eq (.bool false), .eq (.bool false), .eq (.int .i64 (0)), .eq (.bool true), .eq (.bool true), .eq (.int .i64 (a)), .eq (.agg (nl (a)).toArray), .eq (.agg (nl (a)).toArray), .eq (.bool false), .eq (.bool false), .eq (.bool false), .eq (.bool false), .eq (.int .i64 (0)), .eq (.bool false), .eq (.bool false), .eq undef, .eq undef, .eq undef, .eq undef, .eq undef, .eq undef, .eq (.bool false), .eq (.bool false)] (List.replicate 28 none) (fun wx => Below w10.heap.size w10 wx) ?_ ?_ ?_ ?_
  · exact nobs _ _
  · exact (Below.refl _ _).drew
  · simp only [full, Act.put, List.setIfInBounds_toArray, List.set_cons_succ, List.set_cons_zero, Nat.zero_add, Nat.reduceAdd]
    intro i o ho v wx hC hall
    rcases i with _ | _ | _ | _ | _ | _ | _ | _ | _ | _ | _ | _ | _ | _ | _ | _ | _ | _ | _ | _ | _ | _ | _ | _ | _ | _ | _ | _ | i
    · obtain rfl := Option.some.inj ho
      refine gw rfl (g_load_all 24 _ (w.heap.size) (nl (a)) 24 _ rfl (b_a.below hC b_a.lt) Try.underlying24 rfl (sz24 0) ?_)
      exact ⟨own_pd _ rfl rfl, hC, Below.refl _ _⟩
    · obtain rfl := Option.some.inj ho
      have d0 : v 0 = .agg (nl (a)).toArray := hall ⟨0, .data⟩ (by simp) rfl _ rfl
      refine gw rfl (g_call 16 _ _ [.agg (nl (a)).toArray] (kf16 _ _) (by show ([v 0] : List Value) = _; rw [d0]; (try rfl)) ((ref_any a wx w_a).mono ?_))
      rintro e w' ⟨u_, rfl, hp, hb⟩
      exact ⟨_, rfl, own_pd _ rfl hp, hC.trans (hb.mono hC.size), hb⟩
    · obtain rfl := Option.some.inj ho
      have d1 : RN wx (v 1) (a) := hall ⟨1, .data⟩ (by simp) rfl _ rfl
      refine gw rfl (g_call 15 _ _ [v 1, .int .i64 (63)] (kf15 _ _) (rfl) ((fits_any _ a 63 wx true d1 fa hfi).mono ?_))
      rintro e w' ⟨rfl, hb⟩
      exact ⟨_, rfl, own_pd _ rfl rfl, hC.trans (hb.mono hC.size), hb⟩
    · obtain rfl := Option.some.inj ho
      refine gw rfl (g_move _ _ rfl ?_)
      exact ⟨own_pd _ rfl rfl, hC, Below.refl _ _⟩
    · obtain rfl := Option.some.inj ho
      have d3 : v 3 = .int .i64 (0) := hall ⟨3, .data⟩ (by simp) rfl _ rfl
      refine gw rfl (g_ieq 26 _ _ .i64 _ _ true (show v 3 = _ from d3) rfl (by decide) ?_)
      exact ⟨own_pd _ rfl rfl, hC, Below.refl _ _⟩
    · obtain rfl := Option.some.inj ho
      have d2 : v 2 = .bool true := hall ⟨2, .data⟩ (by simp) rfl _ rfl
      have d4 : v 4 = .bool true := hall ⟨4, .data⟩ (by simp) rfl _ rfl
      refine gw rfl (g_bneq _ _ _ _ (show v 2 = _ from d2) (show v 4 = _ from d4) ?_)
      exact ⟨own_pd _ rfl rfl, hC, Below.refl _ _⟩
    · obtain rfl := Option.some.inj ho
      have d5 : v 5 = .bool false := hall ⟨5, .data⟩ (by simp) rfl _ rfl
      refine gw rfl (g_move _ _ (show v 5 = _ from d5) ?_)
      exact ⟨own_pd _ rfl rfl, hC, Below.refl _ _⟩
    · obtain rfl := Option.some.inj ho
      have dg : v 6 = .bool false := hall ⟨6, .guard⟩ (by simp) rfl _ rfl
      refine gw (by simp [Region.wanted, yielded, dg]) (g_move _ _ rfl ?_)
      exact ⟨own_pd _ rfl rfl, hC, Below.refl _ _⟩
    · obtain rfl := Option.some.inj ho
      have dg : v 6 = .bool false := hall ⟨6, .guard⟩ (by simp) rfl _ rfl
      have d7 : v 7 = .int .i64 (0) := hall ⟨7, .data⟩ (by simp) rfl _ rfl
      refine gw (by simp [Region.wanted, yielded, dg]) (g_ieq 26 _ _ .i64 _ _ true (show v 7 = _ from d7) rfl (by decide) ?_)
      exact ⟨own_pd _ rfl rfl, hC, Below.refl _ _⟩
    · obtain rfl := Option.some.inj ho
      have dg : v 6 = .bool false := hall ⟨6, .guard⟩ (by simp) rfl _ rfl
      have d8 : v 8 = .bool true := hall ⟨8, .data⟩ (by simp) rfl _ rfl
      refine gw (by simp [Region.wanted, yielded, dg]) (g_move _ _ (show v 8 = _ from d8) ?_)
      exact ⟨own_pd _ rfl rfl, hC, Below.refl _ _⟩
    · obtain rfl := Option.some.inj ho
      have dg : v 9 = .bool true := hall ⟨9, .guard⟩ (by simp) rfl _ rfl
      refine gw (by simp [Region.wanted, yielded, dg]) (g_move _ _ rfl ?_)
      exact ⟨own_pd _ rfl rfl, hC, Below.refl _ _⟩
    · obtain rfl := Option.some.inj ho
      have dg : v 9 = .bool true := hall ⟨9, .guard⟩ (by simp) rfl _ rfl
      have d10 : v 10 = .int .i64 (a) := hall ⟨10, .data⟩ (by simp) rfl _ rfl
      refine gw (by simp [Region.wanted, yielded, dg]) (g_call 17 _ _ [.int .i64 (a)] (kf17 _ _) (by show ([v 10] : List Value) = _; rw [d10]; (try rfl)) ((of_any a wx hIn).mono ?_))
      rintro e w' ⟨rfl, hb⟩
      exact ⟨_, rfl, own_pd _ rfl rfl, hC.trans (hb.mono hC.size), hb⟩
    · obtain rfl := Option.some.inj ho
      have dg : v 9 = .bool true := hall ⟨9, .guard⟩ (by simp) rfl _ rfl
      refine gw (by simp [Region.wanted, yielded, dg]) (g_load_all 24 _ (w.heap.size) (nl (a)) 24 _ rfl (b_a.below hC b_a.lt) Try.underlying24 rfl (sz24 0) ?_)
      exact ⟨own_pd _ rfl rfl, hC, Below.refl _ _⟩
    · obtain rfl := Option.some.inj ho
      have dg : v 9 = .bool true := hall ⟨9, .guard⟩ (by simp) rfl _ rfl
      have d11 : v 11 = .agg (nl (a)).toArray := hall ⟨11, .data⟩ (by simp) rfl _ rfl
      have d12 : v 12 = .agg (nl (a)).toArray := hall ⟨12, .data⟩ (by simp) rfl _ rfl
      refine gw (by simp [Region.wanted, yielded, dg]) (g_neq24 _ _ (a) (a) true (show v 11 = _ from d11) (show v 12 = _ from d12) (decide_eq_true rfl) ?_)
      exact ⟨own_pd _ rfl rfl, hC, Below.refl _ _⟩
    · obtain rfl := Option.some.inj ho
      have dg : v 6 = .bool false := hall ⟨6, .guard⟩ (by simp) rfl _ rfl
      have d9 : v 9 = .bool true := hall ⟨9, .data⟩ (by simp) rfl _ rfl
      have d13 : v 13 = .bool false := hall ⟨13, .data⟩ (by simp) rfl _ rfl
      refine gw (by simp [Region.wanted, yielded, dg]) (g_pickt _ _ _ _ (show v 9 = _ from d9) (show v 13 = _ from d13) ?_)
      exact ⟨own_pd _ rfl rfl, hC, Below.refl _ _⟩
    · obtain rfl := Option.some.inj ho
      have d6 : v 6 = .bool false := hall ⟨6, .data⟩ (by simp) rfl _ rfl
      have d14 : v 14 = .bool false := hall ⟨14, .data⟩ (by simp) rfl _ rfl
      refine gw rfl (g_pickf _ _ _ _ (show v 6 = _ from d6) (show v 14 = _ from d14) ?_)
      exact ⟨own_pd _ rfl rfl, hC, Below.refl _ _⟩
    · obtain rfl := Option.some.inj ho
      have d15 : v 15 = .bool false := hall ⟨15, .data⟩ (by simp) rfl _ rfl
      refine gw rfl (g_move _ _ (show v 15 = _ from d15) ?_)
      exact ⟨own_pd _ rfl rfl, hC, Below.refl _ _⟩
    · obtain rfl := Option.some.inj ho
      have dg : v 16 = .bool false := hall ⟨16, .guard⟩ (by simp) rfl _ rfl
      refine gw (by simp [Region.wanted, yielded, dg]) (g_move _ _ rfl ?_)
      exact ⟨own_pd _ rfl rfl, hC, Below.refl _ _⟩
    · obtain rfl := Option.some.inj ho
      have dg : v 16 = .bool false := hall ⟨16, .guard⟩ (by simp) rfl _ rfl
      have d17 : v 17 = .int .i64 (0) := hall ⟨17, .data⟩ (by simp) rfl _ rfl
      refine gw (by simp [Region.wanted, yielded, dg]) (g_ine 26 _ _ .i64 _ _ false (show v 17 = _ from d17) rfl (by decide) ?_)
      exact ⟨own_pd _ rfl rfl, hC, Below.refl _ _⟩
    · obtain rfl := Option.some.inj ho
      have dg : v 16 = .bool false := hall ⟨16, .guard⟩ (by simp) rfl _ rfl
      have d18 : v 18 = .bool false := hall ⟨18, .data⟩ (by simp) rfl _ rfl
      refine gw (by simp [Region.wanted, yielded, dg]) (g_move _ _ (show v 18 = _ from d18) ?_)
      exact ⟨own_pd _ rfl rfl, hC, Below.refl _ _⟩
    · obtain rfl := Option.some.inj ho
      have dg : v 19 = .bool false := hall ⟨19, .guard⟩ (by simp) rfl _ rfl
      refine gn (by simp [Region.wanted, yielded, dg]) ?_
      exact ⟨own_pd _ rfl rfl, hC, Below.refl _ _⟩
    · obtain rfl := Option.some.inj ho
      have dg : v 19 = .bool false := hall ⟨19, .guard⟩ (by simp) rfl _ rfl
      refine gn (by simp [Region.wanted, yielded, dg]) ?_
      exact ⟨own_pd _ rfl rfl, hC, Below.refl _ _⟩
    · obtain rfl := Option.some.inj ho
      have dg : v 19 = .bool false := hall ⟨19, .guard⟩ (by simp) rfl _ rfl
      refine gn (by simp [Region.wanted, yielded, dg]) ?_
      exact ⟨own_pd _ rfl rfl, hC, Below.refl _ _⟩
    · obtain rfl := Option.some.inj ho
      have dg : v 22 = undef := hall ⟨22, .guard⟩ (by simp) rfl _ rfl
      refine gn (by simp [Region.wanted, yielded, dg, undef]) ?_
      exact ⟨own_pd _ rfl rfl, hC, Below.refl _ _⟩
    · obtain rfl := Option.some.inj ho
      have dg : v 22 = undef := hall ⟨22, .guard⟩ (by simp) rfl _ rfl
      refine gn (by simp [Region.wanted, yielded, dg, undef]) ?_
      exact ⟨own_pd _ rfl rfl, hC, Below.refl _ _⟩
    · obtain rfl := Option.some.inj ho
      have dg : v 19 = .bool false := hall ⟨19, .guard⟩ (by simp) rfl _ rfl
      refine gn (by simp [Region.wanted, yielded, dg]) ?_
      exact ⟨own_pd _ rfl rfl, hC, Below.refl _ _⟩
    · obtain rfl := Option.some.inj ho
      have dg : v 16 = .bool false := hall ⟨16, .guard⟩ (by simp) rfl _ rfl
      have d19 : v 19 = .bool false := hall ⟨19, .data⟩ (by simp) rfl _ rfl
      refine gw (by simp [Region.wanted, yielded, dg]) (g_pickf _ _ _ _ (show v 19 = _ from d19) rfl ?_)
      exact ⟨own_pd _ rfl rfl, hC, Below.refl _ _⟩
    · obtain rfl := Option.some.inj ho
      have d16 : v 16 = .bool false := hall ⟨16, .data⟩ (by simp) rfl _ rfl
      have d26 : v 26 = .bool false := hall ⟨26, .data⟩ (by simp) rfl _ rfl
      refine gw rfl (g_pickf _ _ _ _ (show v 16 = _ from d16) (show v 26 = _ from d26) ?_)
      exact ⟨own_pd _ rfl rfl, hC, Below.refl _ _⟩
    · simp at ho
  · simp only [full, Act.put, List.setIfInBounds_toArray, List.set_cons_succ, List.set_cons_zero, Nat.zero_add, Nat.reduceAdd]
    intro v w11 hC hall
    have d0 : v 0 = .agg (nl (a)).toArray := hall 0 _ (by decide) rfl
    (try rw [d0])
    clear d0
    generalize v 1 = y1_1
    have d2 : v 2 = .bool true := hall 2 _ (by decide) rfl
    (try rw [d2])
    clear d2
    have d3 : v 3 = .int .i64 (0) := hall 3 _ (by decide) rfl
    (try rw [d3])
    clear d3
    have d4 : v 4 = .bool true := hall 4 _ (by decide) rfl
    (try rw [d4])
    clear d4
    have d5 : v 5 = .bool false := hall 5 _ (by decide) rfl
    (try rw [d5])
    clear d5
    have d6 : v 6 = .bool false := hall 6 _ (by decide) rfl
    (try rw [d6])
    clear d6
    have d7 : v 7 = .int .i64 (0) := hall 7 _ (by decide) rfl
    (try rw [d7])
    clear d7
    have d8 : v 8 = .bool true := hall 8 _ (by decide) rfl
    (try rw [d8])
    clear d8
    have d9 : v 9 = .bool true := hall 9 _ (by decide) rfl
    (try rw [d9])
    clear d9
    have d10 : v 10 = .int .i64 (a) := hall 10 _ (by decide) rfl
    (try rw [d10])
    clear d10
    have d11 : v 11 = .agg (nl (a)).toArray := hall 11 _ (by decide) rfl
    (try rw [d11])
    clear d11
    have d12 : v 12 = .agg (nl (a)).toArray := hall 12 _ (by decide) rfl
    (try rw [d12])
    clear d12
    have d13 : v 13 = .bool false := hall 13 _ (by decide) rfl
    (try rw [d13])
    clear d13
    have d14 : v 14 = .bool false := hall 14 _ (by decide) rfl
    (try rw [d14])
    clear d14
    have d15 : v 15 = .bool false := hall 15 _ (by decide) rfl
    (try rw [d15])
    clear d15
    have d16 : v 16 = .bool false := hall 16 _ (by decide) rfl
    (try rw [d16])
    clear d16
    have d17 : v 17 = .int .i64 (0) := hall 17 _ (by decide) rfl
    (try rw [d17])
    clear d17
    have d18 : v 18 = .bool false := hall 18 _ (by decide) rfl
    (try rw [d18])
    clear d18
    have d19 : v 19 = .bool false := hall 19 _ (by decide) rfl
    (try rw [d19])
    clear d19
    generalize v 20 = y1_20
    generalize v 21 = y1_21
    generalize v 22 = y1_22
    generalize v 23 = y1_23
    generalize v 24 = y1_24
    generalize v 25 = y1_25
    have d26 : v 26 = .bool false := hall 26 _ (by decide) rfl
    (try rw [d26])
    clear d26
    have d27 : v 27 = .bool false := hall 27 _ (by decide) rfl
    (try rw [d27])
    clear d27
    clear hall
    replace b_a := b_a.below hC b_a.lt
    replace b_b := b_b.below hC b_b.lt
    replace b_s := b_s.below hC b_s.lt
    replace b_d := b_d.below hC b_d.lt
    replace hB := hB.trans (hC.mono hB.size)
    clear hC
    go_wp2_with (first
      | ((with_reducible refine stop_region 8 ?_); intro X2 hX2))
    refine hX2.out ?_
    clear hX2
    refine wp_region_pred (by kernel_rfl) (by kernel_rfl) [.eq (.agg (nl (a + b)).toArray), .eq (.int .i64 (0)), .eq (.agg (nl (a)).toArray), .rn (a), .eq (.agg (nl (b)).toArray), .rn (b), .rn (a + b), .eq (.bool true), .eq (.bool true), .eq (.agg (nl (a - b)).toArray), .eq (.int .i64 (0)), .eq (.agg (nl (a)).toArray), .rn (a), .eq (.agg (nl (b)).toArray), .rn (b), .rn (-b), .rn (a - b), .eq (.bool true), .eq (.bool true), .eq (.bool true), .eq (.agg (nl (a)).toArray), .eq (.agg (nl (b)).toArray), .eq (.int .i64 (R)), .eq (.agg (nl (a)).toArray), .rn (a), .eq (.agg (nl (b)).toArray), .rn (b), .eq (.int .i64 (R)), .eq (.bool true), .eq (.bool true), .eq (.bool true)] (List.replicate 31 none) (fun wx => Below w11.heap.size w11 wx) ?_ ?_ ?_ ?_
    · exact nobs _ _
    · exact (Below.refl _ _).drew
    · simp only [full, Act.put, List.setIfInBounds_toArray, List.set_cons_succ, List.set_cons_zero, Nat.zero_add, Nat.reduceAdd]
      intro i o ho v wx hC hall
      rcases i with _ | _ | _ | _ | _ | _ | _ | _ | _ | _ | _ | _ | _ | _ | _ | _ | _ | _ | _ | _ | _ | _ | _ | _ | _ | _ | _ | _ | _ | _ | _ | i
      · obtain rfl := Option.some.inj ho
        refine gw rfl (g_load_all 24 _ (w4.heap.size) (nl (a + b)) 24 _ rfl (b_s.below hC b_s.lt) Try.underlying24 rfl (sz24 0) ?_)
        exact ⟨own_pd _ rfl rfl, hC, Below.refl _ _⟩
      · obtain rfl := Option.some.inj ho
        refine gw rfl (g_move _ _ rfl ?_)
        exact ⟨own_pd _ rfl rfl, hC, Below.refl _ _⟩
      · obtain rfl := Option.some.inj ho
        refine gw rfl (g_load_all 24 _ (w.heap.size) (nl (a)) 24 _ rfl (b_a.below hC b_a.lt) Try.underlying24 rfl (sz24 0) ?_)
        exact ⟨own_pd _ rfl rfl, hC, Below.refl _ _⟩
      · obtain rfl := Option.some.inj ho
        have d2 : v 2 = .agg (nl (a)).toArray := hall ⟨2, .data⟩ (by simp) rfl _ rfl
        refine gw rfl (g_call 16 _ _ [.agg (nl (a)).toArray] (kf16 _ _) (by show ([v 2] : List Value) = _; rw [d2]; (try rfl)) ((ref_any a wx w_a).mono ?_))
        rintro e w' ⟨u_, rfl, hp, hb⟩
        exact ⟨_, rfl, own_pd _ rfl hp, hC.trans (hb.mono hC.size), hb⟩
      · obtain rfl := Option.some.inj ho
        refine gw rfl (g_load_all 24 _ (w1.heap.size) (nl (b)) 24 _ rfl (b_b.below hC b_b.lt) Try.underlying24 rfl (sz24 0) ?_)
        exact ⟨own_pd _ rfl rfl, hC, Below.refl _ _⟩
      · obtain rfl := Option.some.inj ho
        have d4 : v 4 = .agg (nl (b)).toArray := hall ⟨4, .data⟩ (by simp) rfl _ rfl
        refine gw rfl (g_call 16 _ _ [.agg (nl (b)).toArray] (kf16 _ _) (by show ([v 4] : List Value) = _; rw [d4]; (try rfl)) ((ref_any b wx w_b).mono ?_))
        rintro e w' ⟨u_, rfl, hp, hb⟩
        exact ⟨_, rfl, own_pd _ rfl hp, hC.trans (hb.mono hC.size), hb⟩
      · obtain rfl := Option.some.inj ho
        have d3 : RN wx (v 3) (a) := hall ⟨3, .data⟩ (by simp) rfl _ rfl
        have d5 : RN wx (v 5) (b) := hall ⟨5, .data⟩ (by simp) rfl _ rfl
        refine gw rfl (g_call 19 _ _ [v 3, v 5] (kf19 _ _) (rfl) ((radd_any _ _ a b (a + b) wx d3 d5 fa fb rfl).mono ?_))
        rintro e w' ⟨u_, rfl, hp, hb⟩
        exact ⟨_, rfl, own_pd _ rfl hp, hC.trans (hb.mono hC.size), hb⟩
      · obtain rfl := Option.some.inj ho
        have d0 : v 0 = .agg (nl (a + b)).toArray := hall ⟨0, .data⟩ (by simp) rfl _ rfl
        have d1 : v 1 = .int .i64 (0) := hall ⟨1, .data⟩ (by simp) rfl _ rfl
        have d6 : RN wx (v 6) (a + b) := hall ⟨6, .data⟩ (by simp) rfl _ rfl
        refine gw rfl (g_call 18 _ _ [.agg (nl (a + b)).toArray, .int .i64 (0), v 6] (kf18 _ _) (by show ([v 0, v 1, v 6] : List Value) = _; rw [d0, d1]; (try rfl)) ((same_ok _ (a + b) wx d6 fs hAd).mono ?_))
        rintro e w' ⟨rfl, hb⟩
        exact ⟨_, rfl, own_pd _ rfl rfl, hC.trans (hb.mono hC.size), hb⟩
      · obtain rfl := Option.some.inj ho
        have d7 : v 7 = .bool true := hall ⟨7, .data⟩ (by simp) rfl _ rfl
        refine gw rfl (g_move _ _ (show v 7 = _ from d7) ?_)
        exact ⟨own_pd _ rfl rfl, hC, Below.refl _ _⟩
      · obtain rfl := Option.some.inj ho
        have dg : v 8 = .bool true := hall ⟨8, .guard⟩ (by simp) rfl _ rfl
        refine gw (by simp [Region.wanted, yielded, dg]) (g_load_all 24 _ (w7.heap.size) (nl (a - b)) 24 _ rfl (b_d.below hC b_d.lt) Try.underlying24 rfl (sz24 0) ?_)
        exact ⟨own_pd _ rfl rfl, hC, Below.refl _ _⟩
      · obtain rfl := Option.some.inj ho
        have dg : v 8 = .bool true := hall ⟨8, .guard⟩ (by simp) rfl _ rfl
        refine gw (by simp [Region.wanted, yielded, dg]) (g_move _ _ rfl ?_)
        exact ⟨own_pd _ rfl rfl, hC, Below.refl _ _⟩
      · obtain rfl := Option.some.inj ho
        have dg : v 8 = .bool true := hall ⟨8, .guard⟩ (by simp) rfl _ rfl
        refine gw (by simp [Region.wanted, yielded, dg]) (g_load_all 24 _ (w.heap.size) (nl (a)) 24 _ rfl (b_a.below hC b_a.lt) Try.underlying24 rfl (sz24 0) ?_)
        exact ⟨own_pd _ rfl rfl, hC, Below.refl _ _⟩
      · obtain rfl := Option.some.inj ho
        have dg : v 8 = .bool true := hall ⟨8, .guard⟩ (by simp) rfl _ rfl
        have d11 : v 11 = .agg (nl (a)).toArray := hall ⟨11, .data⟩ (by simp) rfl _ rfl
        refine gw (by simp [Region.wanted, yielded, dg]) (g_call 16 _ _ [.agg (nl (a)).toArray] (kf16 _ _) (by show ([v 11] : List Value) = _; rw [d11]; (try rfl)) ((ref_any a wx w_a).mono ?_))
        rintro e w' ⟨u_, rfl, hp, hb⟩
        exact ⟨_, rfl, own_pd _ rfl hp, hC.trans (hb.mono hC.size), hb⟩
      · obtain rfl := Option.some.inj ho
        have dg : v 8 = .bool true := hall ⟨8, .guard⟩ (by simp) rfl _ rfl
        refine gw (by simp [Region.wanted, yielded, dg]) (g_load_all 24 _ (w1.heap.size) (nl (b)) 24 _ rfl (b_b.below hC b_b.lt) Try.underlying24 rfl (sz24 0) ?_)
        exact ⟨own_pd _ rfl rfl, hC, Below.refl _ _⟩
      · obtain rfl := Option.some.inj ho
        have dg : v 8 = .bool true := hall ⟨8, .guard⟩ (by simp) rfl _ rfl
        have d13 : v 13 = .agg (nl (b)).toArray := hall ⟨13, .data⟩ (by simp) rfl _ rfl
        refine gw (by simp [Region.wanted, yielded, dg]) (g_call 16 _ _ [.agg (nl (b)).toArray] (kf16 _ _) (by show ([v 13] : List Value) = _; rw [d13]; (try rfl)) ((ref_any b wx w_b).mono ?_))
        rintro e w' ⟨u_, rfl, hp, hb⟩
        exact ⟨_, rfl, own_pd _ rfl hp, hC.trans (hb.mono hC.size), hb⟩
      · obtain rfl := Option.some.inj ho
        have dg : v 8 = .bool true := hall ⟨8, .guard⟩ (by simp) rfl _ rfl
        have d14 : RN wx (v 14) (b) := hall ⟨14, .data⟩ (by simp) rfl _ rfl
        refine gw (by simp [Region.wanted, yielded, dg]) (g_call 20 _ _ [v 14] (kf20 _ _) (rfl) ((less_any _ b wx d14 fb).mono ?_))
        rintro e w' ⟨u_, rfl, hp, hb⟩
        exact ⟨_, rfl, own_pd _ rfl hp, hC.trans (hb.mono hC.size), hb⟩
      · obtain rfl := Option.some.inj ho
        have dg : v 8 = .bool true := hall ⟨8, .guard⟩ (by simp) rfl _ rfl
        have d12 : RN wx (v 12) (a) := hall ⟨12, .data⟩ (by simp) rfl _ rfl
        have d15 : RN wx (v 15) (-b) := hall ⟨15, .data⟩ (by simp) rfl _ rfl
        refine gw (by simp [Region.wanted, yielded, dg]) (g_call 19 _ _ [v 12, v 15] (kf19 _ _) (rfl) ((radd_any _ _ a (-b) (a - b) wx d12 d15 fa fnb hab).mono ?_))
        rintro e w' ⟨u_, rfl, hp, hb⟩
        exact ⟨_, rfl, own_pd _ rfl hp, hC.trans (hb.mono hC.size), hb⟩
      · obtain rfl := Option.some.inj ho
        have dg : v 8 = .bool true := hall ⟨8, .guard⟩ (by simp) rfl _ rfl
        have d9 : v 9 = .agg (nl (a - b)).toArray := hall ⟨9, .data⟩ (by simp) rfl _ rfl
        have d10 : v 10 = .int .i64 (0) := hall ⟨10, .data⟩ (by simp) rfl _ rfl
        have d16 : RN wx (v 16) (a - b) := hall ⟨16, .data⟩ (by simp) rfl _ rfl
        refine gw (by simp [Region.wanted, yielded, dg]) (g_call 18 _ _ [.agg (nl (a - b)).toArray, .int .i64 (0), v 16] (kf18 _ _) (by show ([v 9, v 10, v 16] : List Value) = _; rw [d9, d10]; (try rfl)) ((same_ok _ (a - b) wx d16 fd hSu).mono ?_))
        rintro e w' ⟨rfl, hb⟩
        exact ⟨_, rfl, own_pd _ rfl rfl, hC.trans (hb.mono hC.size), hb⟩
      · obtain rfl := Option.some.inj ho
        have d8 : v 8 = .bool true := hall ⟨8, .data⟩ (by simp) rfl _ rfl
        have d17 : v 17 = .bool true := hall ⟨17, .data⟩ (by simp) rfl _ rfl
        refine gw rfl (g_pickt _ _ _ _ (show v 8 = _ from d8) (show v 17 = _ from d17) ?_)
        exact ⟨own_pd _ rfl rfl, hC, Below.refl _ _⟩
      · obtain rfl := Option.some.inj ho
        have d18 : v 18 = .bool true := hall ⟨18, .data⟩ (by simp) rfl _ rfl
        refine gw rfl (g_move _ _ (show v 18 = _ from d18) ?_)
        exact ⟨own_pd _ rfl rfl, hC, Below.refl _ _⟩
      · obtain rfl := Option.some.inj ho
        have dg : v 19 = .bool true := hall ⟨19, .guard⟩ (by simp) rfl _ rfl
        refine gw (by simp [Region.wanted, yielded, dg]) (g_load_all 24 _ (w.heap.size) (nl (a)) 24 _ rfl (b_a.below hC b_a.lt) Try.underlying24 rfl (sz24 0) ?_)
        exact ⟨own_pd _ rfl rfl, hC, Below.refl _ _⟩
      · obtain rfl := Option.some.inj ho
        have dg : v 19 = .bool true := hall ⟨19, .guard⟩ (by simp) rfl _ rfl
        refine gw (by simp [Region.wanted, yielded, dg]) (g_load_all 24 _ (w1.heap.size) (nl (b)) 24 _ rfl (b_b.below hC b_b.lt) Try.underlying24 rfl (sz24 0) ?_)
        exact ⟨own_pd _ rfl rfl, hC, Below.refl _ _⟩
      · obtain rfl := Option.some.inj ho
        have dg : v 19 = .bool true := hall ⟨19, .guard⟩ (by simp) rfl _ rfl
        have d20 : v 20 = .agg (nl (a)).toArray := hall ⟨20, .data⟩ (by simp) rfl _ rfl
        have d21 : v 21 = .agg (nl (b)).toArray := hall ⟨21, .data⟩ (by simp) rfl _ rfl
        refine gw (by simp [Region.wanted, yielded, dg]) (g_call 21 _ _ [.agg (nl (a)).toArray, .agg (nl (b)).toArray] (kf21 _ _) (by show ([v 20, v 21] : List Value) = _; rw [d20, d21]; (try rfl)) ((cmp_any a b wx R hR).mono ?_))
        rintro e w' ⟨rfl, hb⟩
        exact ⟨_, rfl, own_pd _ rfl rfl, hC.trans (hb.mono hC.size), hb⟩
      · obtain rfl := Option.some.inj ho
        have dg : v 19 = .bool true := hall ⟨19, .guard⟩ (by simp) rfl _ rfl
        refine gw (by simp [Region.wanted, yielded, dg]) (g_load_all 24 _ (w.heap.size) (nl (a)) 24 _ rfl (b_a.below hC b_a.lt) Try.underlying24 rfl (sz24 0) ?_)
        exact ⟨own_pd _ rfl rfl, hC, Below.refl _ _⟩
      · obtain rfl := Option.some.inj ho
        have dg : v 19 = .bool true := hall ⟨19, .guard⟩ (by simp) rfl _ rfl
        have d23 : v 23 = .agg (nl (a)).toArray := hall ⟨23, .data⟩ (by simp) rfl _ rfl
        refine gw (by simp [Region.wanted, yielded, dg]) (g_call 16 _ _ [.agg (nl (a)).toArray] (kf16 _ _) (by show ([v 23] : List Value) = _; rw [d23]; (try rfl)) ((ref_any a wx w_a).mono ?_))
        rintro e w' ⟨u_, rfl, hp, hb⟩
        exact ⟨_, rfl, own_pd _ rfl hp, hC.trans (hb.mono hC.size), hb⟩
      · obtain rfl := Option.some.inj ho
        have dg : v 19 = .bool true := hall ⟨19, .guard⟩ (by simp) rfl _ rfl
        refine gw (by simp [Region.wanted, yielded, dg]) (g_load_all 24 _ (w1.heap.size) (nl (b)) 24 _ rfl (b_b.below hC b_b.lt) Try.underlying24 rfl (sz24 0) ?_)
        exact ⟨own_pd _ rfl rfl, hC, Below.refl _ _⟩
      · obtain rfl := Option.some.inj ho
        have dg : v 19 = .bool true := hall ⟨19, .guard⟩ (by simp) rfl _ rfl
        have d25 : v 25 = .agg (nl (b)).toArray := hall ⟨25, .data⟩ (by simp) rfl _ rfl
        refine gw (by simp [Region.wanted, yielded, dg]) (g_call 16 _ _ [.agg (nl (b)).toArray] (kf16 _ _) (by show ([v 25] : List Value) = _; rw [d25]; (try rfl)) ((ref_any b wx w_b).mono ?_))
        rintro e w' ⟨u_, rfl, hp, hb⟩
        exact ⟨_, rfl, own_pd _ rfl hp, hC.trans (hb.mono hC.size), hb⟩
      · obtain rfl := Option.some.inj ho
        have dg : v 19 = .bool true := hall ⟨19, .guard⟩ (by simp) rfl _ rfl
        have d24 : RN wx (v 24) (a) := hall ⟨24, .data⟩ (by simp) rfl _ rfl
        have d26 : RN wx (v 26) (b) := hall ⟨26, .data⟩ (by simp) rfl _ rfl
        refine gw (by simp [Region.wanted, yielded, dg]) (g_call 22 _ _ [v 24, v 26] (kf22 _ _) (rfl) ((rcmp_any _ _ a b R wx d24 d26 fa fb hR).mono ?_))
        rintro e w' ⟨rfl, hb⟩
        exact ⟨_, rfl, own_pd _ rfl rfl, hC.trans (hb.mono hC.size), hb⟩
      · obtain rfl := Option.some.inj ho
        have dg : v 19 = .bool true := hall ⟨19, .guard⟩ (by simp) rfl _ rfl
        have d22 : v 22 = .int .i64 (R) := hall ⟨22, .data⟩ (by simp) rfl _ rfl
        have d27 : v 27 = .int .i64 (R) := hall ⟨27, .data⟩ (by simp) rfl _ rfl
        refine gw (by simp [Region.wanted, yielded, dg]) (g_ieq 3 _ _ .i64 _ _ true (show v 22 = _ from d22) (show v 27 = _ from d27) (decide_eq_true rfl) ?_)
        exact ⟨own_pd _ rfl rfl, hC, Below.refl _ _⟩
      · obtain rfl := Option.some.inj ho
        have d19 : v 19 = .bool true := hall ⟨19, .data⟩ (by simp) rfl _ rfl
        have d28 : v 28 = .bool true := hall ⟨28, .data⟩ (by simp) rfl _ rfl
        refine gw rfl (g_pickt _ _ _ _ (show v 19 = _ from d19) (show v 28 = _ from d28) ?_)
        exact ⟨own_pd _ rfl rfl, hC, Below.refl _ _⟩
      · obtain rfl := Option.some.inj ho
        have d29 : v 29 = .bool true := hall ⟨29, .data⟩ (by simp) rfl _ rfl
        refine gw rfl (g_assign _ _ (show v 29 = _ from d29) ?_)
        exact ⟨own_pd _ rfl rfl, hC, Below.refl _ _⟩
      · simp at ho
    · simp only [full, Act.put, List.setIfInBounds_toArray, List.set_cons_succ, List.set_cons_zero, Nat.zero_add, Nat.reduceAdd]
      intro v w12 hC hall
      have d0 : v 0 = .agg (nl (a + b)).toArray := hall 0 _ (by decide) rfl
      (try rw [d0])
      clear d0
      have d1 : v 1 = .int .i64 (0) := hall 1 _ (by decide) rfl
      (try rw [d1])
      clear d1
      have d2 : v 2 = .agg (nl (a)).toArray := hall 2 _ (by decide) rfl
      (try rw [d2])
      clear d2
      generalize v 3 = y2_3
      have d4 : v 4 = .agg (nl (b)).toArray := hall 4 _ (by decide) rfl
      (try rw [d4])
      clear d4
      generalize v 5 = y2_5
      generalize v 6 = y2_6
      have d7 : v 7 = .bool true := hall 7 _ (by decide) rfl
      (try rw [d7])
      clear d7
      have d8 : v 8 = .bool true := hall 8 _ (by decide) rfl
      (try rw [d8])
      clear d8
      have d9 : v 9 = .agg (nl (a - b)).toArray := hall 9 _ (by decide) rfl
      (try rw [d9])
      clear d9
      have d10 : v 10 = .int .i64 (0) := hall 10 _ (by decide) rfl
      (try rw [d10])
      clear d10
      have d11 : v 11 = .agg (nl (a)).toArray := hall 11 _ (by decide) rfl
      (try rw [d11])
      clear d11
      generalize v 12 = y2_12
      have d13 : v 13 = .agg (nl (b)).toArray := hall 13 _ (by decide) rfl
      (try rw [d13])
      clear d13
      generalize v 14 = y2_14
      generalize v 15 = y2_15
      generalize v 16 = y2_16
      have d17 : v 17 = .bool true := hall 17 _ (by decide) rfl
      (try rw [d17])
      clear d17
      have d18 : v 18 = .bool true := hall 18 _ (by decide) rfl
      (try rw [d18])
      clear d18
      have d19 : v 19 = .bool true := hall 19 _ (by decide) rfl
      (try rw [d19])
      clear d19
      have d20 : v 20 = .agg (nl (a)).toArray := hall 20 _ (by decide) rfl
      (try rw [d20])
      clear d20
      have d21 : v 21 = .agg (nl (b)).toArray := hall 21 _ (by decide) rfl
      (try rw [d21])
      clear d21
      have d22 : v 22 = .int .i64 (R) := hall 22 _ (by decide) rfl
      (try rw [d22])
      clear d22
      have d23 : v 23 = .agg (nl (a)).toArray := hall 23 _ (by decide) rfl
      (try rw [d23])
      clear d23
      generalize v 24 = y2_24
      have d25 : v 25 = .agg (nl (b)).toArray := hall 25 _ (by decide) rfl
      (try rw [d25])
      clear d25
      generalize v 26 = y2_26
      have d27 : v 27 = .int .i64 (R) := hall 27 _ (by decide) rfl
      (try rw [d27])
      clear d27
      have d28 : v 28 = .bool true := hall 28 _ (by decide) rfl
      (try rw [d28])
      clear d28
      have d29 : v 29 = .bool true := hall 29 _ (by decide) rfl
      (try rw [d29])
      clear d29
      have d30 : v 30 = .bool true := hall 30 _ (by decide) rfl
      (try rw [d30])
      clear d30
      clear hall
      replace b_a := b_a.below hC b_a.lt
      replace b_b := b_b.below hC b_b.lt
      replace b_s := b_s.below hC b_s.lt
      replace b_d := b_d.below hC b_d.lt
      replace hB := hB.trans (hC.mono hB.size)
      clear hC
      go_wp2_with fail
      go_ret
      exact ⟨rfl, hB⟩

set_option maxRecDepth 10000 in
set_option maxHeartbeats 16000000 in
theorem walk110 (a : Int) (b : Int) (w_a : In128 a) (w_b : In128 b) (w : World) (R : Int) (hR : Hid (cmpI a b = R)) (fa : Few a 200) (fb : Few b 200) (fnb : Few (-b) 200) (fs : Few (a + b) 200) (fd : Few (a - b) 200) (hIn : In64 a) (hAd : In128 (a + b)) (hSu : ¬ In128 (a - b)) :
    Calls Try.prog 3 #[.agg (nl a).toArray, .agg (nl b).toArray] w fun e w' => e = .returned (.bool true) ∧ Below w.heap.size w w' := by
  have hab : Hid (a + -b = a - b) := by show _ = _; omega
  have hfi : Hid (decide (-((2 : Int) ^ 63) ≤ a ∧ a < (2 : Int) ^ 63) = true) := decide_eq_true hIn
  go_enter Try.func3, Try.ntmps3
  go_wp2_with (first
    | ((with_reducible refine at_boxD 2 24 ?_); refine L_box 24 _ (nl (a)) rfl ?_; intro w1 t_ b_a; have l_a : w.heap.size ≤ w.heap.size := Nat.le_refl _; have hB : Below w.heap.size w w1 := t_.below (Below.refl _ _) (Nat.le_refl _); clear t_)
    | ((with_reducible refine at_boxD 3 24 ?_); refine L_box 24 _ (nl (b)) rfl ?_; intro w2 t_ b_b; have l_b : w.heap.size ≤ w1.heap.size := hB.size; have o_b := b_a.lt; replace b_a := t_.blk b_a (by omega); replace hB := t_.below hB l_b; clear t_))
  refine (awake_any w2).mono ?_
  rintro e w3 ⟨rfl, t_⟩
  replace b_a := b_a.below t_ b_a.lt
  replace b_b := b_b.below t_ b_b.lt
  replace hB := hB.trans (t_.mono hB.size)
  clear t_
  go_wp2_with (first
    | ((with_reducible refine at_loadD 14 24 ?_); refine L_load_all 24 _ (w.heap.size) (nl (a)) 24 _ rfl b_a Try.underlying24 rfl (sz24 0) ?_)
    | ((with_reducible refine at_loadD 15 24 ?_); refine L_load_all 24 _ (w1.heap.size) (nl (b)) 24 _ rfl b_b Try.underlying24 rfl (sz24 0) ?_))
  refine (add_ok a b w3 w_a w_b hAd).mono ?_
  rintro e w4 ⟨rfl, t_⟩
  replace b_a := b_a.below t_ b_a.lt
  replace b_b := b_b.below t_ b_b.lt
  replace hB := hB.trans (t_.mono hB.size)
  clear t_
  go_wp2_with (first
    | ((with_reducible refine at_allocD 5 24 ?_); refine L_alloc 24 (nl (0)) zero24 ?_; intro w5 t_ b_s; have l_s : w.heap.size ≤ w4.heap.size := hB.size; have o_s := b_b.lt; replace b_a := t_.blk b_a (by omega); replace b_b := t_.blk b_b (by omega); replace hB := t_.below hB l_s; clear t_)
    | ((with_reducible refine at_storeX 5 24 ?_); refine L_store_all 24 _ _ (w4.heap.size) (nl (a + b)) _ 24 rfl rfl b_s (sz24 0) (rfl) (one_nl _) ?_; have b0_s := b_s; clear b_s; intro w6 t_ b_s; replace b_a := t_.blk b_a (by omega); replace b_b := t_.blk b_b (by omega); replace hB := t_.below hB l_s; clear t_ b0_s)
    | ((with_reducible refine at_loadD 20 24 ?_); refine L_load_all 24 _ (w.heap.size) (nl (a)) 24 _ rfl b_a Try.underlying24 rfl (sz24 0) ?_)
    | ((with_reducible refine at_loadD 21 24 ?_); refine L_load_all 24 _ (w1.heap.size) (nl (b)) 24 _ rfl b_b Try.underlying24 rfl (sz24 0) ?_))
  refine (sub_over a b w6 w_a w_b hSu).mono ?_
  rintro e w7 ⟨rfl, t_⟩
  replace b_a := b_a.below t_ b_a.lt
  replace b_b := b_b.below t_ b_b.lt
  replace b_s := b_s.below t_ b_s.lt
  replace hB := hB.trans (t_.mono hB.size)
  clear t_
  go_wp2_with (first
    | ((with_reducible refine at_allocD 7 24 ?_); refine L_alloc 24 (nl (0)) zero24 ?_; intro w8 t_ b_d; have l_d : w.heap.size ≤ w7.heap.size := hB.size; have o_d := b_s.lt; replace b_a := t_.blk b_a (by omega); replace b_b := t_.blk b_b (by omega); replace b_s := t_.blk b_s (by omega); replace hB := t_.below hB l_d; clear t_)
    | ((with_reducible refine at_storeX 7 24 ?_); refine L_store_all 24 _ _ (w7.heap.size) (nl (0)) _ 24 rfl rfl b_d (sz24 0) (rfl) (one_nl _) ?_; have b0_d := b_d; clear b_d; intro w9 t_ b_d; replace b_a := t_.blk b_a (by omega); replace b_b := t_.blk b_b (by omega); replace b_s := t_.blk b_s (by omega); replace hB := t_.below hB l_d; clear t_ b0_d)
    | ((with_reducible refine at_loadD 26 24 ?_); refine L_load_all 24 _ (w.heap.size) (nl (a)) 24 _ rfl b_a Try.underlying24 rfl (sz24 0) ?_))
  refine (int_ok a w9 hIn).mono ?_
  rintro e w10 ⟨rfl, t_⟩
  replace b_a := b_a.below t_ b_a.lt
  replace b_b := b_b.below t_ b_b.lt
  replace b_s := b_s.below t_ b_s.lt
  replace b_d := b_d.below t_ b_d.lt
  replace hB := hB.trans (t_.mono hB.size)
  clear t_
  go_wp2_with (first
    | ((with_reducible refine stop_region 6 ?_); intro X1 hX1))
  refine hX1.out ?_
  clear hX1
  refine wp_region_pred (by kernel_rfl) (by kernel_rfl) [.eq (.agg (nl (a)).toArray), .rn (a), .eq (.bool true), .eq (.int .i64 (0)), .eq (.bool true), .eq (.bool false), .eq (.bool false), .eq (.int .i64 (0)), .eq (.bool true), .eq (.bool true), .eq (.int .i64 (a)), .eq (.agg (nl (a)).toArray), .eq (.agg (nl (a)).toArray), .eq (.bool false), .eq (.bool false), .eq (.bool false), .eq (.bool false), .eq (.int .i64 (0)), .eq (.bool false), .eq (.bool false), .eq undef, .eq undef, .eq undef, .eq undef, .eq undef, .eq undef, .eq (.bool false), .eq (.bool false)] (List.replicate 28 none) (fun wx => Below w10.heap.size w10 wx) ?_ ?_ ?_ ?_
  · exact nobs _ _
  · exact (Below.refl _ _).drew
  · simp only [full, Act.put, List.setIfInBounds_toArray, List.set_cons_succ, List.set_cons_zero, Nat.zero_add, Nat.reduceAdd]
    intro i o ho v wx hC hall
    rcases i with _ | _ | _ | _ | _ | _ | _ | _ | _ | _ | _ | _ | _ | _ | _ | _ | _ | _ | _ | _ | _ | _ | _ | _ | _ | _ | _ | _ | i
    · obtain rfl := Option.some.inj ho
      refine gw rfl (g_load_all 24 _ (w.heap.size) (nl (a)) 24 _ rfl (b_a.below hC b_a.lt) Try.underlying24 rfl (sz24 0) ?_)
      exact ⟨own_pd _ rfl rfl, hC, Below.refl _ _⟩
    · obtain rfl := Option.some.inj ho
      have d0 : v 0 = .agg (nl (a)).toArray := hall ⟨0, .data⟩ (by simp) rfl _ rfl
      refine gw rfl (g_call 16 _ _ [.agg (nl (a)).toArray] (kf16 _ _) (by show ([v 0] : List Value) = _; rw [d0]; (try rfl)) ((ref_any a wx w_a).mono ?_))
      rintro e w' ⟨u_, rfl, hp, hb⟩
      exact ⟨_, rfl, own_pd _ rfl hp, hC.trans (hb.mono hC.size), hb⟩
    · obtain rfl := Option.some.inj ho
      have d1 : RN wx (v 1) (a) := hall ⟨1, .data⟩ (by simp) rfl _ rfl
      refine gw rfl (g_call 15 _ _ [v 1, .int .i64 (63)] (kf15 _ _) (rfl) ((fits_any _ a 63 wx true d1 fa hfi).mono ?_))
      rintro e w' ⟨rfl, hb⟩
      exact ⟨_, rfl, own_pd _ rfl rfl, hC.trans (hb.mono hC.size), hb⟩
    · obtain rfl := Option.some.inj ho
      refine gw rfl (g_move _ _ rfl ?_)
      exact ⟨own_pd _ rfl rfl, hC, Below.refl _ _⟩
    · obtain rfl := Option.some.inj ho
      have d3 : v 3 = .int .i64 (0) := hall ⟨3, .data⟩ (by simp) rfl _ rfl
      refine gw rfl (g_ieq 26 _ _ .i64 _ _ true (show v 3 = _ from d3) rfl (by decide) ?_)
      exact ⟨own_pd _ rfl rfl, hC, Below.refl _ _⟩
    · obtain rfl := Option.some.inj ho
      have d2 : v 2 = .bool true := hall ⟨2, .data⟩ (by simp) rfl _ rfl
      have d4 : v 4 = .bool true := hall ⟨4, .data⟩ (by simp) rfl _ rfl
      refine gw rfl (g_bneq _ _ _ _ (show v 2 = _ from d2) (show v 4 = _ from d4) ?_)
      exact ⟨own_pd _ rfl rfl, hC, Below.refl _ _⟩
    · obtain rfl := Option.some.inj ho
      have d5 : v 5 = .bool false := hall ⟨5, .data⟩ (by simp) rfl _ rfl
      refine gw rfl (g_move _ _ (show v 5 = _ from d5) ?_)
      exact ⟨own_pd _ rfl rfl, hC, Below.refl _ _⟩
    · obtain rfl := Option.some.inj ho
      have dg : v 6 = .bool false := hall ⟨6, .guard⟩ (by simp) rfl _ rfl
      refine gw (by simp [Region.wanted, yielded, dg]) (g_move _ _ rfl ?_)
      exact ⟨own_pd _ rfl rfl, hC, Below.refl _ _⟩
    · obtain rfl := Option.some.inj ho
      have dg : v 6 = .bool false := hall ⟨6, .guard⟩ (by simp) rfl _ rfl
      have d7 : v 7 = .int .i64 (0) := hall ⟨7, .data⟩ (by simp) rfl _ rfl
      refine gw (by simp [Region.wanted, yielded, dg]) (g_ieq 26 _ _ .i64 _ _ true (show v 7 = _ from d7) rfl (by decide) ?_)
      exact ⟨own_pd _ rfl rfl, hC, Below.refl _ _⟩
    · obtain rfl := Option.some.inj ho
      have dg : v 6 = .bool false := hall ⟨6, .guard⟩ (by simp) rfl _ rfl
      have d8 : v 8 = .bool true := hall ⟨8, .data⟩ (by simp) rfl _ rfl
      refine gw (by simp [Region.wanted, yielded, dg]) (g_move _ _ (show v 8 = _ from d8) ?_)
      exact ⟨own_pd _ rfl rfl, hC, Below.refl _ _⟩
    · obtain rfl := Option.some.inj ho
      have dg : v 9 = .bool true := hall ⟨9, .guard⟩ (by simp) rfl _ rfl
      refine gw (by simp [Region.wanted, yielded, dg]) (g_move _ _ rfl ?_)
      exact ⟨own_pd _ rfl rfl, hC, Below.refl _ _⟩
    · obtain rfl := Option.some.inj ho
      have dg : v 9 = .bool true := hall ⟨9, .guard⟩ (by simp) rfl _ rfl
      have d10 : v 10 = .int .i64 (a) := hall ⟨10, .data⟩ (by simp) rfl _ rfl
      refine gw (by simp [Region.wanted, yielded, dg]) (g_call 17 _ _ [.int .i64 (a)] (kf17 _ _) (by show ([v 10] : List Value) = _; rw [d10]; (try rfl)) ((of_any a wx hIn).mono ?_))
      rintro e w' ⟨rfl, hb⟩
      exact ⟨_, rfl, own_pd _ rfl rfl, hC.trans (hb.mono hC.size), hb⟩
    · obtain rfl := Option.some.inj ho
      have dg : v 9 = .bool true := hall ⟨9, .guard⟩ (by simp) rfl _ rfl
      refine gw (by simp [Region.wanted, yielded, dg]) (g_load_all 24 _ (w.heap.size) (nl (a)) 24 _ rfl (b_a.below hC b_a.lt) Try.underlying24 rfl (sz24 0) ?_)
      exact ⟨own_pd _ rfl rfl, hC, Below.refl _ _⟩
    · obtain rfl := Option.some.inj ho
      have dg : v 9 = .bool true := hall ⟨9, .guard⟩ (by simp) rfl _ rfl
      have d11 : v 11 = .agg (nl (a)).toArray := hall ⟨11, .data⟩ (by simp) rfl _ rfl
      have d12 : v 12 = .agg (nl (a)).toArray := hall ⟨12, .data⟩ (by simp) rfl _ rfl
      refine gw (by simp [Region.wanted, yielded, dg]) (g_neq24 _ _ (a) (a) true (show v 11 = _ from d11) (show v 12 = _ from d12) (decide_eq_true rfl) ?_)
      exact ⟨own_pd _ rfl rfl, hC, Below.refl _ _⟩
    · obtain rfl := Option.some.inj ho
      have dg : v 6 = .bool false := hall ⟨6, .guard⟩ (by simp) rfl _ rfl
      have d9 : v 9 = .bool true := hall ⟨9, .data⟩ (by simp) rfl _ rfl
      have d13 : v 13 = .bool false := hall ⟨13, .data⟩ (by simp) rfl _ rfl
      refine gw (by simp [Region.wanted, yielded, dg]) (g_pickt _ _ _ _ (show v 9 = _ from d9) (show v 13 = _ from d13) ?_)
      exact ⟨own_pd _ rfl rfl, hC, Below.refl _ _⟩
    · obtain rfl := Option.some.inj ho
      have d6 : v 6 = .bool false := hall ⟨6, .data⟩ (by simp) rfl _ rfl
      have d14 : v 14 = .bool false := hall ⟨14, .data⟩ (by simp) rfl _ rfl
      refine gw rfl (g_pickf _ _ _ _ (show v 6 = _ from d6) (show v 14 = _ from d14) ?_)
      exact ⟨own_pd _ rfl rfl, hC, Below.refl _ _⟩
    · obtain rfl := Option.some.inj ho
      have d15 : v 15 = .bool false := hall ⟨15, .data⟩ (by simp) rfl _ rfl
      refine gw rfl (g_move _ _ (show v 15 = _ from d15) ?_)
      exact ⟨own_pd _ rfl rfl, hC, Below.refl _ _⟩
    · obtain rfl := Option.some.inj ho
      have dg : v 16 = .bool false := hall ⟨16, .guard⟩ (by simp) rfl _ rfl
      refine gw (by simp [Region.wanted, yielded, dg]) (g_move _ _ rfl ?_)
      exact ⟨own_pd _ rfl rfl, hC, Below.refl _ _⟩
    · obtain rfl := Option.some.inj ho
      have dg : v 16 = .bool false := hall ⟨16, .guard⟩ (by simp) rfl _ rfl
      have d17 : v 17 = .int .i64 (0) := hall ⟨17, .data⟩ (by simp) rfl _ rfl
      refine gw (by simp [Region.wanted, yielded, dg]) (g_ine 26 _ _ .i64 _ _ false (show v 17 = _ from d17) rfl (by decide) ?_)
      exact ⟨own_pd _ rfl rfl, hC, Below.refl _ _⟩
    · obtain rfl := Option.some.inj ho
      have dg : v 16 = .bool false := hall ⟨16, .guard⟩ (by simp) rfl _ rfl
      have d18 : v 18 = .bool false := hall ⟨18, .data⟩ (by simp) rfl _ rfl
      refine gw (by simp [Region.wanted, yielded, dg]) (g_move _ _ (show v 18 = _ from d18) ?_)
      exact ⟨own_pd _ rfl rfl, hC, Below.refl _ _⟩
    · obtain rfl := Option.some.inj ho
      have dg : v 19 = .bool false := hall ⟨19, .guard⟩ (by simp) rfl _ rfl
      refine gn (by simp [Region.wanted, yielded, dg]) ?_
      exact ⟨own_pd _ rfl rfl, hC, Below.refl _ _⟩
    · obtain rfl := Option.some.inj ho
      have dg : v 19 = .bool false := hall ⟨19, .guard⟩ (by simp) rfl _ rfl
      refine gn (by simp [Region.wanted, yielded, dg]) ?_
      exact ⟨own_pd _ rfl rfl, hC, Below.refl _ _⟩
    · obtain rfl := Option.some.inj ho
      have dg : v 19 = .bool false := hall ⟨19, .guard⟩ (by simp) rfl _ rfl
      refine gn (by simp [Region.wanted, yielded, dg]) ?_
      exact ⟨own_pd _ rfl rfl, hC, Below.refl _ _⟩
    · obtain rfl := Option.some.inj ho
      have dg : v 22 = undef := hall ⟨22, .guard⟩ (by simp) rfl _ rfl
      refine gn (by simp [Region.wanted, yielded, dg, undef]) ?_
      exact ⟨own_pd _ rfl rfl, hC, Below.refl _ _⟩
    · obtain rfl := Option.some.inj ho
      have dg : v 22 = undef := hall ⟨22, .guard⟩ (by simp) rfl _ rfl
      refine gn (by simp [Region.wanted, yielded, dg, undef]) ?_
      exact ⟨own_pd _ rfl rfl, hC, Below.refl _ _⟩
    · obtain rfl := Option.some.inj ho
      have dg : v 19 = .bool false := hall ⟨19, .guard⟩ (by simp) rfl _ rfl
      refine gn (by simp [Region.wanted, yielded, dg]) ?_
      exact ⟨own_pd _ rfl rfl, hC, Below.refl _ _⟩
    · obtain rfl := Option.some.inj ho
      have dg : v 16 = .bool false := hall ⟨16, .guard⟩ (by simp) rfl _ rfl
      have d19 : v 19 = .bool false := hall ⟨19, .data⟩ (by simp) rfl _ rfl
      refine gw (by simp [Region.wanted, yielded, dg]) (g_pickf _ _ _ _ (show v 19 = _ from d19) rfl ?_)
      exact ⟨own_pd _ rfl rfl, hC, Below.refl _ _⟩
    · obtain rfl := Option.some.inj ho
      have d16 : v 16 = .bool false := hall ⟨16, .data⟩ (by simp) rfl _ rfl
      have d26 : v 26 = .bool false := hall ⟨26, .data⟩ (by simp) rfl _ rfl
      refine gw rfl (g_pickf _ _ _ _ (show v 16 = _ from d16) (show v 26 = _ from d26) ?_)
      exact ⟨own_pd _ rfl rfl, hC, Below.refl _ _⟩
    · simp at ho
  · simp only [full, Act.put, List.setIfInBounds_toArray, List.set_cons_succ, List.set_cons_zero, Nat.zero_add, Nat.reduceAdd]
    intro v w11 hC hall
    have d0 : v 0 = .agg (nl (a)).toArray := hall 0 _ (by decide) rfl
    (try rw [d0])
    clear d0
    generalize v 1 = y1_1
    have d2 : v 2 = .bool true := hall 2 _ (by decide) rfl
    (try rw [d2])
    clear d2
    have d3 : v 3 = .int .i64 (0) := hall 3 _ (by decide) rfl
    (try rw [d3])
    clear d3
    have d4 : v 4 = .bool true := hall 4 _ (by decide) rfl
    (try rw [d4])
    clear d4
    have d5 : v 5 = .bool false := hall 5 _ (by decide) rfl
    (try rw [d5])
    clear d5
    have d6 : v 6 = .bool false := hall 6 _ (by decide) rfl
    (try rw [d6])
    clear d6
    have d7 : v 7 = .int .i64 (0) := hall 7 _ (by decide) rfl
    (try rw [d7])
    clear d7
    have d8 : v 8 = .bool true := hall 8 _ (by decide) rfl
    (try rw [d8])
    clear d8
    have d9 : v 9 = .bool true := hall 9 _ (by decide) rfl
    (try rw [d9])
    clear d9
    have d10 : v 10 = .int .i64 (a) := hall 10 _ (by decide) rfl
    (try rw [d10])
    clear d10
    have d11 : v 11 = .agg (nl (a)).toArray := hall 11 _ (by decide) rfl
    (try rw [d11])
    clear d11
    have d12 : v 12 = .agg (nl (a)).toArray := hall 12 _ (by decide) rfl
    (try rw [d12])
    clear d12
    have d13 : v 13 = .bool false := hall 13 _ (by decide) rfl
    (try rw [d13])
    clear d13
    have d14 : v 14 = .bool false := hall 14 _ (by decide) rfl
    (try rw [d14])
    clear d14
    have d15 : v 15 = .bool false := hall 15 _ (by decide) rfl
    (try rw [d15])
    clear d15
    have d16 : v 16 = .bool false := hall 16 _ (by decide) rfl
    (try rw [d16])
    clear d16
    have d17 : v 17 = .int .i64 (0) := hall 17 _ (by decide) rfl
    (try rw [d17])
    clear d17
    have d18 : v 18 = .bool false := hall 18 _ (by decide) rfl
    (try rw [d18])
    clear d18
    have d19 : v 19 = .bool false := hall 19 _ (by decide) rfl
    (try rw [d19])
    clear d19
    generalize v 20 = y1_20
    generalize v 21 = y1_21
    generalize v 22 = y1_22
    generalize v 23 = y1_23
    generalize v 24 = y1_24
    generalize v 25 = y1_25
    have d26 : v 26 = .bool false := hall 26 _ (by decide) rfl
    (try rw [d26])
    clear d26
    have d27 : v 27 = .bool false := hall 27 _ (by decide) rfl
    (try rw [d27])
    clear d27
    clear hall
    replace b_a := b_a.below hC b_a.lt
    replace b_b := b_b.below hC b_b.lt
    replace b_s := b_s.below hC b_s.lt
    replace b_d := b_d.below hC b_d.lt
    replace hB := hB.trans (hC.mono hB.size)
    clear hC
    go_wp2_with (first
      | ((with_reducible refine stop_region 8 ?_); intro X2 hX2))
    refine hX2.out ?_
    clear hX2
    refine wp_region_pred (by kernel_rfl) (by kernel_rfl) [.eq (.agg (nl (a + b)).toArray), .eq (.int .i64 (0)), .eq (.agg (nl (a)).toArray), .rn (a), .eq (.agg (nl (b)).toArray), .rn (b), .rn (a + b), .eq (.bool true), .eq (.bool true), .eq (.agg (nl (0)).toArray), .eq (.int .i64 (6)), .eq (.agg (nl (a)).toArray), .rn (a), .eq (.agg (nl (b)).toArray), .rn (b), .rn (-b), .rn (a - b), .eq (.bool true), .eq (.bool true), .eq (.bool true), .eq (.agg (nl (a)).toArray), .eq (.agg (nl (b)).toArray), .eq (.int .i64 (R)), .eq (.agg (nl (a)).toArray), .rn (a), .eq (.agg (nl (b)).toArray), .rn (b), .eq (.int .i64 (R)), .eq (.bool true), .eq (.bool true), .eq (.bool true)] (List.replicate 31 none) (fun wx => Below w11.heap.size w11 wx) ?_ ?_ ?_ ?_
    · exact nobs _ _
    · exact (Below.refl _ _).drew
    · simp only [full, Act.put, List.setIfInBounds_toArray, List.set_cons_succ, List.set_cons_zero, Nat.zero_add, Nat.reduceAdd]
      intro i o ho v wx hC hall
      rcases i with _ | _ | _ | _ | _ | _ | _ | _ | _ | _ | _ | _ | _ | _ | _ | _ | _ | _ | _ | _ | _ | _ | _ | _ | _ | _ | _ | _ | _ | _ | _ | i
      · obtain rfl := Option.some.inj ho
        refine gw rfl (g_load_all 24 _ (w4.heap.size) (nl (a + b)) 24 _ rfl (b_s.below hC b_s.lt) Try.underlying24 rfl (sz24 0) ?_)
        exact ⟨own_pd _ rfl rfl, hC, Below.refl _ _⟩
      · obtain rfl := Option.some.inj ho
        refine gw rfl (g_move _ _ rfl ?_)
        exact ⟨own_pd _ rfl rfl, hC, Below.refl _ _⟩
      · obtain rfl := Option.some.inj ho
        refine gw rfl (g_load_all 24 _ (w.heap.size) (nl (a)) 24 _ rfl (b_a.below hC b_a.lt) Try.underlying24 rfl (sz24 0) ?_)
        exact ⟨own_pd _ rfl rfl, hC, Below.refl _ _⟩
      · obtain rfl := Option.some.inj ho
        have d2 : v 2 = .agg (nl (a)).toArray := hall ⟨2, .data⟩ (by simp) rfl _ rfl
        refine gw rfl (g_call 16 _ _ [.agg (nl (a)).toArray] (kf16 _ _) (by show ([v 2] : List Value) = _; rw [d2]; (try rfl)) ((ref_any a wx w_a).mono ?_))
        rintro e w' ⟨u_, rfl, hp, hb⟩
        exact ⟨_, rfl, own_pd _ rfl hp, hC.trans (hb.mono hC.size), hb⟩
      · obtain rfl := Option.some.inj ho
        refine gw rfl (g_load_all 24 _ (w1.heap.size) (nl (b)) 24 _ rfl (b_b.below hC b_b.lt) Try.underlying24 rfl (sz24 0) ?_)
        exact ⟨own_pd _ rfl rfl, hC, Below.refl _ _⟩
      · obtain rfl := Option.some.inj ho
        have d4 : v 4 = .agg (nl (b)).toArray := hall ⟨4, .data⟩ (by simp) rfl _ rfl
        refine gw rfl (g_call 16 _ _ [.agg (nl (b)).toArray] (kf16 _ _) (by show ([v 4] : List Value) = _; rw [d4]; (try rfl)) ((ref_any b wx w_b).mono ?_))
        rintro e w' ⟨u_, rfl, hp, hb⟩
        exact ⟨_, rfl, own_pd _ rfl hp, hC.trans (hb.mono hC.size), hb⟩
      · obtain rfl := Option.some.inj ho
        have d3 : RN wx (v 3) (a) := hall ⟨3, .data⟩ (by simp) rfl _ rfl
        have d5 : RN wx (v 5) (b) := hall ⟨5, .data⟩ (by simp) rfl _ rfl
        refine gw rfl (g_call 19 _ _ [v 3, v 5] (kf19 _ _) (rfl) ((radd_any _ _ a b (a + b) wx d3 d5 fa fb rfl).mono ?_))
        rintro e w' ⟨u_, rfl, hp, hb⟩
        exact ⟨_, rfl, own_pd _ rfl hp, hC.trans (hb.mono hC.size), hb⟩
      · obtain rfl := Option.some.inj ho
        have d0 : v 0 = .agg (nl (a + b)).toArray := hall ⟨0, .data⟩ (by simp) rfl _ rfl
        have d1 : v 1 = .int .i64 (0) := hall ⟨1, .data⟩ (by simp) rfl _ rfl
        have d6 : RN wx (v 6) (a + b) := hall ⟨6, .data⟩ (by simp) rfl _ rfl
        refine gw rfl (g_call 18 _ _ [.agg (nl (a + b)).toArray, .int .i64 (0), v 6] (kf18 _ _) (by show ([v 0, v 1, v 6] : List Value) = _; rw [d0, d1]; (try rfl)) ((same_ok _ (a + b) wx d6 fs hAd).mono ?_))
        rintro e w' ⟨rfl, hb⟩
        exact ⟨_, rfl, own_pd _ rfl rfl, hC.trans (hb.mono hC.size), hb⟩
      · obtain rfl := Option.some.inj ho
        have d7 : v 7 = .bool true := hall ⟨7, .data⟩ (by simp) rfl _ rfl
        refine gw rfl (g_move _ _ (show v 7 = _ from d7) ?_)
        exact ⟨own_pd _ rfl rfl, hC, Below.refl _ _⟩
      · obtain rfl := Option.some.inj ho
        have dg : v 8 = .bool true := hall ⟨8, .guard⟩ (by simp) rfl _ rfl
        refine gw (by simp [Region.wanted, yielded, dg]) (g_load_all 24 _ (w7.heap.size) (nl (0)) 24 _ rfl (b_d.below hC b_d.lt) Try.underlying24 rfl (sz24 0) ?_)
        exact ⟨own_pd _ rfl rfl, hC, Below.refl _ _⟩
      · obtain rfl := Option.some.inj ho
        have dg : v 8 = .bool true := hall ⟨8, .guard⟩ (by simp) rfl _ rfl
        refine gw (by simp [Region.wanted, yielded, dg]) (g_move _ _ rfl ?_)
        exact ⟨own_pd _ rfl rfl, hC, Below.refl _ _⟩
      · obtain rfl := Option.some.inj ho
        have dg : v 8 = .bool true := hall ⟨8, .guard⟩ (by simp) rfl _ rfl
        refine gw (by simp [Region.wanted, yielded, dg]) (g_load_all 24 _ (w.heap.size) (nl (a)) 24 _ rfl (b_a.below hC b_a.lt) Try.underlying24 rfl (sz24 0) ?_)
        exact ⟨own_pd _ rfl rfl, hC, Below.refl _ _⟩
      · obtain rfl := Option.some.inj ho
        have dg : v 8 = .bool true := hall ⟨8, .guard⟩ (by simp) rfl _ rfl
        have d11 : v 11 = .agg (nl (a)).toArray := hall ⟨11, .data⟩ (by simp) rfl _ rfl
        refine gw (by simp [Region.wanted, yielded, dg]) (g_call 16 _ _ [.agg (nl (a)).toArray] (kf16 _ _) (by show ([v 11] : List Value) = _; rw [d11]; (try rfl)) ((ref_any a wx w_a).mono ?_))
        rintro e w' ⟨u_, rfl, hp, hb⟩
        exact ⟨_, rfl, own_pd _ rfl hp, hC.trans (hb.mono hC.size), hb⟩
      · obtain rfl := Option.some.inj ho
        have dg : v 8 = .bool true := hall ⟨8, .guard⟩ (by simp) rfl _ rfl
        refine gw (by simp [Region.wanted, yielded, dg]) (g_load_all 24 _ (w1.heap.size) (nl (b)) 24 _ rfl (b_b.below hC b_b.lt) Try.underlying24 rfl (sz24 0) ?_)
        exact ⟨own_pd _ rfl rfl, hC, Below.refl _ _⟩
      · obtain rfl := Option.some.inj ho
        have dg : v 8 = .bool true := hall ⟨8, .guard⟩ (by simp) rfl _ rfl
        have d13 : v 13 = .agg (nl (b)).toArray := hall ⟨13, .data⟩ (by simp) rfl _ rfl
        refine gw (by simp [Region.wanted, yielded, dg]) (g_call 16 _ _ [.agg (nl (b)).toArray] (kf16 _ _) (by show ([v 13] : List Value) = _; rw [d13]; (try rfl)) ((ref_any b wx w_b).mono ?_))
        rintro e w' ⟨u_, rfl, hp, hb⟩
        exact ⟨_, rfl, own_pd _ rfl hp, hC.trans (hb.mono hC.size), hb⟩
      · obtain rfl := Option.some.inj ho
        have dg : v 8 = .bool true := hall ⟨8, .guard⟩ (by simp) rfl _ rfl
        have d14 : RN wx (v 14) (b) := hall ⟨14, .data⟩ (by simp) rfl _ rfl
        refine gw (by simp [Region.wanted, yielded, dg]) (g_call 20 _ _ [v 14] (kf20 _ _) (rfl) ((less_any _ b wx d14 fb).mono ?_))
        rintro e w' ⟨u_, rfl, hp, hb⟩
        exact ⟨_, rfl, own_pd _ rfl hp, hC.trans (hb.mono hC.size), hb⟩
      · obtain rfl := Option.some.inj ho
        have dg : v 8 = .bool true := hall ⟨8, .guard⟩ (by simp) rfl _ rfl
        have d12 : RN wx (v 12) (a) := hall ⟨12, .data⟩ (by simp) rfl _ rfl
        have d15 : RN wx (v 15) (-b) := hall ⟨15, .data⟩ (by simp) rfl _ rfl
        refine gw (by simp [Region.wanted, yielded, dg]) (g_call 19 _ _ [v 12, v 15] (kf19 _ _) (rfl) ((radd_any _ _ a (-b) (a - b) wx d12 d15 fa fnb hab).mono ?_))
        rintro e w' ⟨u_, rfl, hp, hb⟩
        exact ⟨_, rfl, own_pd _ rfl hp, hC.trans (hb.mono hC.size), hb⟩
      · obtain rfl := Option.some.inj ho
        have dg : v 8 = .bool true := hall ⟨8, .guard⟩ (by simp) rfl _ rfl
        have d9 : v 9 = .agg (nl (0)).toArray := hall ⟨9, .data⟩ (by simp) rfl _ rfl
        have d10 : v 10 = .int .i64 (6) := hall ⟨10, .data⟩ (by simp) rfl _ rfl
        have d16 : RN wx (v 16) (a - b) := hall ⟨16, .data⟩ (by simp) rfl _ rfl
        refine gw (by simp [Region.wanted, yielded, dg]) (g_call 18 _ _ [.agg (nl (0)).toArray, .int .i64 (6), v 16] (kf18 _ _) (by show ([v 9, v 10, v 16] : List Value) = _; rw [d9, d10]; (try rfl)) ((same_over _ (a - b) wx d16 fd hSu).mono ?_))
        rintro e w' ⟨rfl, hb⟩
        exact ⟨_, rfl, own_pd _ rfl rfl, hC.trans (hb.mono hC.size), hb⟩
      · obtain rfl := Option.some.inj ho
        have d8 : v 8 = .bool true := hall ⟨8, .data⟩ (by simp) rfl _ rfl
        have d17 : v 17 = .bool true := hall ⟨17, .data⟩ (by simp) rfl _ rfl
        refine gw rfl (g_pickt _ _ _ _ (show v 8 = _ from d8) (show v 17 = _ from d17) ?_)
        exact ⟨own_pd _ rfl rfl, hC, Below.refl _ _⟩
      · obtain rfl := Option.some.inj ho
        have d18 : v 18 = .bool true := hall ⟨18, .data⟩ (by simp) rfl _ rfl
        refine gw rfl (g_move _ _ (show v 18 = _ from d18) ?_)
        exact ⟨own_pd _ rfl rfl, hC, Below.refl _ _⟩
      · obtain rfl := Option.some.inj ho
        have dg : v 19 = .bool true := hall ⟨19, .guard⟩ (by simp) rfl _ rfl
        refine gw (by simp [Region.wanted, yielded, dg]) (g_load_all 24 _ (w.heap.size) (nl (a)) 24 _ rfl (b_a.below hC b_a.lt) Try.underlying24 rfl (sz24 0) ?_)
        exact ⟨own_pd _ rfl rfl, hC, Below.refl _ _⟩
      · obtain rfl := Option.some.inj ho
        have dg : v 19 = .bool true := hall ⟨19, .guard⟩ (by simp) rfl _ rfl
        refine gw (by simp [Region.wanted, yielded, dg]) (g_load_all 24 _ (w1.heap.size) (nl (b)) 24 _ rfl (b_b.below hC b_b.lt) Try.underlying24 rfl (sz24 0) ?_)
        exact ⟨own_pd _ rfl rfl, hC, Below.refl _ _⟩
      · obtain rfl := Option.some.inj ho
        have dg : v 19 = .bool true := hall ⟨19, .guard⟩ (by simp) rfl _ rfl
        have d20 : v 20 = .agg (nl (a)).toArray := hall ⟨20, .data⟩ (by simp) rfl _ rfl
        have d21 : v 21 = .agg (nl (b)).toArray := hall ⟨21, .data⟩ (by simp) rfl _ rfl
        refine gw (by simp [Region.wanted, yielded, dg]) (g_call 21 _ _ [.agg (nl (a)).toArray, .agg (nl (b)).toArray] (kf21 _ _) (by show ([v 20, v 21] : List Value) = _; rw [d20, d21]; (try rfl)) ((cmp_any a b wx R hR).mono ?_))
        rintro e w' ⟨rfl, hb⟩
        exact ⟨_, rfl, own_pd _ rfl rfl, hC.trans (hb.mono hC.size), hb⟩
      · obtain rfl := Option.some.inj ho
        have dg : v 19 = .bool true := hall ⟨19, .guard⟩ (by simp) rfl _ rfl
        refine gw (by simp [Region.wanted, yielded, dg]) (g_load_all 24 _ (w.heap.size) (nl (a)) 24 _ rfl (b_a.below hC b_a.lt) Try.underlying24 rfl (sz24 0) ?_)
        exact ⟨own_pd _ rfl rfl, hC, Below.refl _ _⟩
      · obtain rfl := Option.some.inj ho
        have dg : v 19 = .bool true := hall ⟨19, .guard⟩ (by simp) rfl _ rfl
        have d23 : v 23 = .agg (nl (a)).toArray := hall ⟨23, .data⟩ (by simp) rfl _ rfl
        refine gw (by simp [Region.wanted, yielded, dg]) (g_call 16 _ _ [.agg (nl (a)).toArray] (kf16 _ _) (by show ([v 23] : List Value) = _; rw [d23]; (try rfl)) ((ref_any a wx w_a).mono ?_))
        rintro e w' ⟨u_, rfl, hp, hb⟩
        exact ⟨_, rfl, own_pd _ rfl hp, hC.trans (hb.mono hC.size), hb⟩
      · obtain rfl := Option.some.inj ho
        have dg : v 19 = .bool true := hall ⟨19, .guard⟩ (by simp) rfl _ rfl
        refine gw (by simp [Region.wanted, yielded, dg]) (g_load_all 24 _ (w1.heap.size) (nl (b)) 24 _ rfl (b_b.below hC b_b.lt) Try.underlying24 rfl (sz24 0) ?_)
        exact ⟨own_pd _ rfl rfl, hC, Below.refl _ _⟩
      · obtain rfl := Option.some.inj ho
        have dg : v 19 = .bool true := hall ⟨19, .guard⟩ (by simp) rfl _ rfl
        have d25 : v 25 = .agg (nl (b)).toArray := hall ⟨25, .data⟩ (by simp) rfl _ rfl
        refine gw (by simp [Region.wanted, yielded, dg]) (g_call 16 _ _ [.agg (nl (b)).toArray] (kf16 _ _) (by show ([v 25] : List Value) = _; rw [d25]; (try rfl)) ((ref_any b wx w_b).mono ?_))
        rintro e w' ⟨u_, rfl, hp, hb⟩
        exact ⟨_, rfl, own_pd _ rfl hp, hC.trans (hb.mono hC.size), hb⟩
      · obtain rfl := Option.some.inj ho
        have dg : v 19 = .bool true := hall ⟨19, .guard⟩ (by simp) rfl _ rfl
        have d24 : RN wx (v 24) (a) := hall ⟨24, .data⟩ (by simp) rfl _ rfl
        have d26 : RN wx (v 26) (b) := hall ⟨26, .data⟩ (by simp) rfl _ rfl
        refine gw (by simp [Region.wanted, yielded, dg]) (g_call 22 _ _ [v 24, v 26] (kf22 _ _) (rfl) ((rcmp_any _ _ a b R wx d24 d26 fa fb hR).mono ?_))
        rintro e w' ⟨rfl, hb⟩
        exact ⟨_, rfl, own_pd _ rfl rfl, hC.trans (hb.mono hC.size), hb⟩
      · obtain rfl := Option.some.inj ho
        have dg : v 19 = .bool true := hall ⟨19, .guard⟩ (by simp) rfl _ rfl
        have d22 : v 22 = .int .i64 (R) := hall ⟨22, .data⟩ (by simp) rfl _ rfl
        have d27 : v 27 = .int .i64 (R) := hall ⟨27, .data⟩ (by simp) rfl _ rfl
        refine gw (by simp [Region.wanted, yielded, dg]) (g_ieq 3 _ _ .i64 _ _ true (show v 22 = _ from d22) (show v 27 = _ from d27) (decide_eq_true rfl) ?_)
        exact ⟨own_pd _ rfl rfl, hC, Below.refl _ _⟩
      · obtain rfl := Option.some.inj ho
        have d19 : v 19 = .bool true := hall ⟨19, .data⟩ (by simp) rfl _ rfl
        have d28 : v 28 = .bool true := hall ⟨28, .data⟩ (by simp) rfl _ rfl
        refine gw rfl (g_pickt _ _ _ _ (show v 19 = _ from d19) (show v 28 = _ from d28) ?_)
        exact ⟨own_pd _ rfl rfl, hC, Below.refl _ _⟩
      · obtain rfl := Option.some.inj ho
        have d29 : v 29 = .bool true := hall ⟨29, .data⟩ (by simp) rfl _ rfl
        refine gw rfl (g_assign _ _ (show v 29 = _ from d29) ?_)
        exact ⟨own_pd _ rfl rfl, hC, Below.refl _ _⟩
      · simp at ho
    · simp only [full, Act.put, List.setIfInBounds_toArray, List.set_cons_succ, List.set_cons_zero, Nat.zero_add, Nat.reduceAdd]
      intro v w12 hC hall
      have d0 : v 0 = .agg (nl (a + b)).toArray := hall 0 _ (by decide) rfl
      (try rw [d0])
      clear d0
      have d1 : v 1 = .int .i64 (0) := hall 1 _ (by decide) rfl
      (try rw [d1])
      clear d1
      have d2 : v 2 = .agg (nl (a)).toArray := hall 2 _ (by decide) rfl
      (try rw [d2])
      clear d2
      generalize v 3 = y2_3
      have d4 : v 4 = .agg (nl (b)).toArray := hall 4 _ (by decide) rfl
      (try rw [d4])
      clear d4
      generalize v 5 = y2_5
      generalize v 6 = y2_6
      have d7 : v 7 = .bool true := hall 7 _ (by decide) rfl
      (try rw [d7])
      clear d7
      have d8 : v 8 = .bool true := hall 8 _ (by decide) rfl
      (try rw [d8])
      clear d8
      have d9 : v 9 = .agg (nl (0)).toArray := hall 9 _ (by decide) rfl
      (try rw [d9])
      clear d9
      have d10 : v 10 = .int .i64 (6) := hall 10 _ (by decide) rfl
      (try rw [d10])
      clear d10
      have d11 : v 11 = .agg (nl (a)).toArray := hall 11 _ (by decide) rfl
      (try rw [d11])
      clear d11
      generalize v 12 = y2_12
      have d13 : v 13 = .agg (nl (b)).toArray := hall 13 _ (by decide) rfl
      (try rw [d13])
      clear d13
      generalize v 14 = y2_14
      generalize v 15 = y2_15
      generalize v 16 = y2_16
      have d17 : v 17 = .bool true := hall 17 _ (by decide) rfl
      (try rw [d17])
      clear d17
      have d18 : v 18 = .bool true := hall 18 _ (by decide) rfl
      (try rw [d18])
      clear d18
      have d19 : v 19 = .bool true := hall 19 _ (by decide) rfl
      (try rw [d19])
      clear d19
      have d20 : v 20 = .agg (nl (a)).toArray := hall 20 _ (by decide) rfl
      (try rw [d20])
      clear d20
      have d21 : v 21 = .agg (nl (b)).toArray := hall 21 _ (by decide) rfl
      (try rw [d21])
      clear d21
      have d22 : v 22 = .int .i64 (R) := hall 22 _ (by decide) rfl
      (try rw [d22])
      clear d22
      have d23 : v 23 = .agg (nl (a)).toArray := hall 23 _ (by decide) rfl
      (try rw [d23])
      clear d23
      generalize v 24 = y2_24
      have d25 : v 25 = .agg (nl (b)).toArray := hall 25 _ (by decide) rfl
      (try rw [d25])
      clear d25
      generalize v 26 = y2_26
      have d27 : v 27 = .int .i64 (R) := hall 27 _ (by decide) rfl
      (try rw [d27])
      clear d27
      have d28 : v 28 = .bool true := hall 28 _ (by decide) rfl
      (try rw [d28])
      clear d28
      have d29 : v 29 = .bool true := hall 29 _ (by decide) rfl
      (try rw [d29])
      clear d29
      have d30 : v 30 = .bool true := hall 30 _ (by decide) rfl
      (try rw [d30])
      clear d30
      clear hall
      replace b_a := b_a.below hC b_a.lt
      replace b_b := b_b.below hC b_b.lt
      replace b_s := b_s.below hC b_s.lt
      replace b_d := b_d.below hC b_d.lt
      replace hB := hB.trans (hC.mono hB.size)
      clear hC
      go_wp2_with fail
      go_ret
      exact ⟨rfl, hB⟩

set_option maxRecDepth 10000 in
set_option maxHeartbeats 16000000 in
theorem walk101 (a : Int) (b : Int) (w_a : In128 a) (w_b : In128 b) (w : World) (R : Int) (hR : Hid (cmpI a b = R)) (fa : Few a 200) (fb : Few b 200) (fnb : Few (-b) 200) (fs : Few (a + b) 200) (fd : Few (a - b) 200) (hIn : In64 a) (hAd : ¬ In128 (a + b)) (hSu : In128 (a - b)) :
    Calls Try.prog 3 #[.agg (nl a).toArray, .agg (nl b).toArray] w fun e w' => e = .returned (.bool true) ∧ Below w.heap.size w w' := by
  have hab : Hid (a + -b = a - b) := by show _ = _; omega
  have hfi : Hid (decide (-((2 : Int) ^ 63) ≤ a ∧ a < (2 : Int) ^ 63) = true) := decide_eq_true hIn
  go_enter Try.func3, Try.ntmps3
  go_wp2_with (first
    | ((with_reducible refine at_boxD 2 24 ?_); refine L_box 24 _ (nl (a)) rfl ?_; intro w1 t_ b_a; have l_a : w.heap.size ≤ w.heap.size := Nat.le_refl _; have hB : Below w.heap.size w w1 := t_.below (Below.refl _ _) (Nat.le_refl _); clear t_)
    | ((with_reducible refine at_boxD 3 24 ?_); refine L_box 24 _ (nl (b)) rfl ?_; intro w2 t_ b_b; have l_b : w.heap.size ≤ w1.heap.size := hB.size; have o_b := b_a.lt; replace b_a := t_.blk b_a (by omega); replace hB := t_.below hB l_b; clear t_))
  refine (awake_any w2).mono ?_
  rintro e w3 ⟨rfl, t_⟩
  replace b_a := b_a.below t_ b_a.lt
  replace b_b := b_b.below t_ b_b.lt
  replace hB := hB.trans (t_.mono hB.size)
  clear t_
  go_wp2_with (first
    | ((with_reducible refine at_loadD 14 24 ?_); refine L_load_all 24 _ (w.heap.size) (nl (a)) 24 _ rfl b_a Try.underlying24 rfl (sz24 0) ?_)
    | ((with_reducible refine at_loadD 15 24 ?_); refine L_load_all 24 _ (w1.heap.size) (nl (b)) 24 _ rfl b_b Try.underlying24 rfl (sz24 0) ?_))
  refine (add_over a b w3 w_a w_b hAd).mono ?_
  rintro e w4 ⟨rfl, t_⟩
  replace b_a := b_a.below t_ b_a.lt
  replace b_b := b_b.below t_ b_b.lt
  replace hB := hB.trans (t_.mono hB.size)
  clear t_
  go_wp2_with (first
    | ((with_reducible refine at_allocD 5 24 ?_); refine L_alloc 24 (nl (0)) zero24 ?_; intro w5 t_ b_s; have l_s : w.heap.size ≤ w4.heap.size := hB.size; have o_s := b_b.lt; replace b_a := t_.blk b_a (by omega); replace b_b := t_.blk b_b (by omega); replace hB := t_.below hB l_s; clear t_)
    | ((with_reducible refine at_storeX 5 24 ?_); refine L_store_all 24 _ _ (w4.heap.size) (nl (0)) _ 24 rfl rfl b_s (sz24 0) (rfl) (one_nl _) ?_; have b0_s := b_s; clear b_s; intro w6 t_ b_s; replace b_a := t_.blk b_a (by omega); replace b_b := t_.blk b_b (by omega); replace hB := t_.below hB l_s; clear t_ b0_s)
    | ((with_reducible refine at_loadD 20 24 ?_); refine L_load_all 24 _ (w.heap.size) (nl (a)) 24 _ rfl b_a Try.underlying24 rfl (sz24 0) ?_)
    | ((with_reducible refine at_loadD 21 24 ?_); refine L_load_all 24 _ (w1.heap.size) (nl (b)) 24 _ rfl b_b Try.underlying24 rfl (sz24 0) ?_))
  refine (sub_ok a b w6 w_a w_b hSu).mono ?_
  rintro e w7 ⟨rfl, t_⟩
  replace b_a := b_a.below t_ b_a.lt
  replace b_b := b_b.below t_ b_b.lt
  replace b_s := b_s.below t_ b_s.lt
  replace hB := hB.trans (t_.mono hB.size)
  clear t_
  go_wp2_with (first
    | ((with_reducible refine at_allocD 7 24 ?_); refine L_alloc 24 (nl (0)) zero24 ?_; intro w8 t_ b_d; have l_d : w.heap.size ≤ w7.heap.size := hB.size; have o_d := b_s.lt; replace b_a := t_.blk b_a (by omega); replace b_b := t_.blk b_b (by omega); replace b_s := t_.blk b_s (by omega); replace hB := t_.below hB l_d; clear t_)
    | ((with_reducible refine at_storeX 7 24 ?_); refine L_store_all 24 _ _ (w7.heap.size) (nl (a - b)) _ 24 rfl rfl b_d (sz24 0) (rfl) (one_nl _) ?_; have b0_d := b_d; clear b_d; intro w9 t_ b_d; replace b_a := t_.blk b_a (by omega); replace b_b := t_.blk b_b (by omega); replace b_s := t_.blk b_s (by omega); replace hB := t_.below hB l_d; clear t_ b0_d)
    | ((with_reducible refine at_loadD 26 24 ?_); refine L_load_all 24 _ (w.heap.size) (nl (a)) 24 _ rfl b_a Try.underlying24 rfl (sz24 0) ?_))
  refine (int_ok a w9 hIn).mono ?_
  rintro e w10 ⟨rfl, t_⟩
  replace b_a := b_a.below t_ b_a.lt
  replace b_b := b_b.below t_ b_b.lt
  replace b_s := b_s.below t_ b_s.lt
  replace b_d := b_d.below t_ b_d.lt
  replace hB := hB.trans (t_.mono hB.size)
  clear t_
  go_wp2_with (first
    | ((with_reducible refine stop_region 6 ?_); intro X1 hX1))
  refine hX1.out ?_
  clear hX1
  refine wp_region_pred (by kernel_rfl) (by kernel_rfl) [.eq (.agg (nl (a)).toArray), .rn (a), .eq (.bool true), .eq (.int .i64 (0)), .eq (.bool true), .eq (.bool false), .eq (.bool false), .eq (.int .i64 (0)), .eq (.bool true), .eq (.bool true), .eq (.int .i64 (a)), .eq (.agg (nl (a)).toArray), .eq (.agg (nl (a)).toArray), .eq (.bool false), .eq (.bool false), .eq (.bool false), .eq (.bool false), .eq (.int .i64 (0)), .eq (.bool false), .eq (.bool false), .eq undef, .eq undef, .eq undef, .eq undef, .eq undef, .eq undef, .eq (.bool false), .eq (.bool false)] (List.replicate 28 none) (fun wx => Below w10.heap.size w10 wx) ?_ ?_ ?_ ?_
  · exact nobs _ _
  · exact (Below.refl _ _).drew
  · simp only [full, Act.put, List.setIfInBounds_toArray, List.set_cons_succ, List.set_cons_zero, Nat.zero_add, Nat.reduceAdd]
    intro i o ho v wx hC hall
    rcases i with _ | _ | _ | _ | _ | _ | _ | _ | _ | _ | _ | _ | _ | _ | _ | _ | _ | _ | _ | _ | _ | _ | _ | _ | _ | _ | _ | _ | i
    · obtain rfl := Option.some.inj ho
      refine gw rfl (g_load_all 24 _ (w.heap.size) (nl (a)) 24 _ rfl (b_a.below hC b_a.lt) Try.underlying24 rfl (sz24 0) ?_)
      exact ⟨own_pd _ rfl rfl, hC, Below.refl _ _⟩
    · obtain rfl := Option.some.inj ho
      have d0 : v 0 = .agg (nl (a)).toArray := hall ⟨0, .data⟩ (by simp) rfl _ rfl
      refine gw rfl (g_call 16 _ _ [.agg (nl (a)).toArray] (kf16 _ _) (by show ([v 0] : List Value) = _; rw [d0]; (try rfl)) ((ref_any a wx w_a).mono ?_))
      rintro e w' ⟨u_, rfl, hp, hb⟩
      exact ⟨_, rfl, own_pd _ rfl hp, hC.trans (hb.mono hC.size), hb⟩
    · obtain rfl := Option.some.inj ho
      have d1 : RN wx (v 1) (a) := hall ⟨1, .data⟩ (by simp) rfl _ rfl
      refine gw rfl (g_call 15 _ _ [v 1, .int .i64 (63)] (kf15 _ _) (rfl) ((fits_any _ a 63 wx true d1 fa hfi).mono ?_))
      rintro e w' ⟨rfl, hb⟩
      exact ⟨_, rfl, own_pd _ rfl rfl, hC.trans (hb.mono hC.size), hb⟩
    · obtain rfl := Option.some.inj ho
      refine gw rfl (g_move _ _ rfl ?_)
      exact ⟨own_pd _ rfl rfl, hC, Below.refl _ _⟩
    · obtain rfl := Option.some.inj ho
      have d3 : v 3 = .int .i64 (0) := hall ⟨3, .data⟩ (by simp) rfl _ rfl
      refine gw rfl (g_ieq 26 _ _ .i64 _ _ true (show v 3 = _ from d3) rfl (by decide) ?_)
      exact ⟨own_pd _ rfl rfl, hC, Below.refl _ _⟩
    · obtain rfl := Option.some.inj ho
      have d2 : v 2 = .bool true := hall ⟨2, .data⟩ (by simp) rfl _ rfl
      have d4 : v 4 = .bool true := hall ⟨4, .data⟩ (by simp) rfl _ rfl
      refine gw rfl (g_bneq _ _ _ _ (show v 2 = _ from d2) (show v 4 = _ from d4) ?_)
      exact ⟨own_pd _ rfl rfl, hC, Below.refl _ _⟩
    · obtain rfl := Option.some.inj ho
      have d5 : v 5 = .bool false := hall ⟨5, .data⟩ (by simp) rfl _ rfl
      refine gw rfl (g_move _ _ (show v 5 = _ from d5) ?_)
      exact ⟨own_pd _ rfl rfl, hC, Below.refl _ _⟩
    · obtain rfl := Option.some.inj ho
      have dg : v 6 = .bool false := hall ⟨6, .guard⟩ (by simp) rfl _ rfl
      refine gw (by simp [Region.wanted, yielded, dg]) (g_move _ _ rfl ?_)
      exact ⟨own_pd _ rfl rfl, hC, Below.refl _ _⟩
    · obtain rfl := Option.some.inj ho
      have dg : v 6 = .bool false := hall ⟨6, .guard⟩ (by simp) rfl _ rfl
      have d7 : v 7 = .int .i64 (0) := hall ⟨7, .data⟩ (by simp) rfl _ rfl
      refine gw (by simp [Region.wanted, yielded, dg]) (g_ieq 26 _ _ .i64 _ _ true (show v 7 = _ from d7) rfl (by decide) ?_)
      exact ⟨own_pd _ rfl rfl, hC, Below.refl _ _⟩
    · obtain rfl := Option.some.inj ho
      have dg : v 6 = .bool false := hall ⟨6, .guard⟩ (by simp) rfl _ rfl
      have d8 : v 8 = .bool true := hall ⟨8, .data⟩ (by simp) rfl _ rfl
      refine gw (by simp [Region.wanted, yielded, dg]) (g_move _ _ (show v 8 = _ from d8) ?_)
      exact ⟨own_pd _ rfl rfl, hC, Below.refl _ _⟩
    · obtain rfl := Option.some.inj ho
      have dg : v 9 = .bool true := hall ⟨9, .guard⟩ (by simp) rfl _ rfl
      refine gw (by simp [Region.wanted, yielded, dg]) (g_move _ _ rfl ?_)
      exact ⟨own_pd _ rfl rfl, hC, Below.refl _ _⟩
    · obtain rfl := Option.some.inj ho
      have dg : v 9 = .bool true := hall ⟨9, .guard⟩ (by simp) rfl _ rfl
      have d10 : v 10 = .int .i64 (a) := hall ⟨10, .data⟩ (by simp) rfl _ rfl
      refine gw (by simp [Region.wanted, yielded, dg]) (g_call 17 _ _ [.int .i64 (a)] (kf17 _ _) (by show ([v 10] : List Value) = _; rw [d10]; (try rfl)) ((of_any a wx hIn).mono ?_))
      rintro e w' ⟨rfl, hb⟩
      exact ⟨_, rfl, own_pd _ rfl rfl, hC.trans (hb.mono hC.size), hb⟩
    · obtain rfl := Option.some.inj ho
      have dg : v 9 = .bool true := hall ⟨9, .guard⟩ (by simp) rfl _ rfl
      refine gw (by simp [Region.wanted, yielded, dg]) (g_load_all 24 _ (w.heap.size) (nl (a)) 24 _ rfl (b_a.below hC b_a.lt) Try.underlying24 rfl (sz24 0) ?_)
      exact ⟨own_pd _ rfl rfl, hC, Below.refl _ _⟩
    · obtain rfl := Option.some.inj ho
      have dg : v 9 = .bool true := hall ⟨9, .guard⟩ (by simp) rfl _ rfl
      have d11 : v 11 = .agg (nl (a)).toArray := hall ⟨11, .data⟩ (by simp) rfl _ rfl
      have d12 : v 12 = .agg (nl (a)).toArray := hall ⟨12, .data⟩ (by simp) rfl _ rfl
      refine gw (by simp [Region.wanted, yielded, dg]) (g_neq24 _ _ (a) (a) true (show v 11 = _ from d11) (show v 12 = _ from d12) (decide_eq_true rfl) ?_)
      exact ⟨own_pd _ rfl rfl, hC, Below.refl _ _⟩
    · obtain rfl := Option.some.inj ho
      have dg : v 6 = .bool false := hall ⟨6, .guard⟩ (by simp) rfl _ rfl
      have d9 : v 9 = .bool true := hall ⟨9, .data⟩ (by simp) rfl _ rfl
      have d13 : v 13 = .bool false := hall ⟨13, .data⟩ (by simp) rfl _ rfl
      refine gw (by simp [Region.wanted, yielded, dg]) (g_pickt _ _ _ _ (show v 9 = _ from d9) (show v 13 = _ from d13) ?_)
      exact ⟨own_pd _ rfl rfl, hC, Below.refl _ _⟩
    · obtain rfl := Option.some.inj ho
      have d6 : v 6 = .bool false := hall ⟨6, .data⟩ (by simp) rfl _ rfl
      have d14 : v 14 = .bool false := hall ⟨14, .data⟩ (by simp) rfl _ rfl
      refine gw rfl (g_pickf _ _ _ _ (show v 6 = _ from d6) (show v 14 = _ from d14) ?_)
      exact ⟨own_pd _ rfl rfl, hC, Below.refl _ _⟩
    · obtain rfl := Option.some.inj ho
      have d15 : v 15 = .bool false := hall ⟨15, .data⟩ (by simp) rfl _ rfl
      refine gw rfl (g_move _ _ (show v 15 = _ from d15) ?_)
      exact ⟨own_pd _ rfl rfl, hC, Below.refl _ _⟩
    · obtain rfl := Option.some.inj ho
      have dg : v 16 = .bool false := hall ⟨16, .guard⟩ (by simp) rfl _ rfl
      refine gw (by simp [Region.wanted, yielded, dg]) (g_move _ _ rfl ?_)
      exact ⟨own_pd _ rfl rfl, hC, Below.refl _ _⟩
    · obtain rfl := Option.some.inj ho
      have dg : v 16 = .bool false := hall ⟨16, .guard⟩ (by simp) rfl _ rfl
      have d17 : v 17 = .int .i64 (0) := hall ⟨17, .data⟩ (by simp) rfl _ rfl
      refine gw (by simp [Region.wanted, yielded, dg]) (g_ine 26 _ _ .i64 _ _ false (show v 17 = _ from d17) rfl (by decide) ?_)
      exact ⟨own_pd _ rfl rfl, hC, Below.refl _ _⟩
    · obtain rfl := Option.some.inj ho
      have dg : v 16 = .bool false := hall ⟨16, .guard⟩ (by simp) rfl _ rfl
      have d18 : v 18 = .bool false := hall ⟨18, .data⟩ (by simp) rfl _ rfl
      refine gw (by simp [Region.wanted, yielded, dg]) (g_move _ _ (show v 18 = _ from d18) ?_)
      exact ⟨own_pd _ rfl rfl, hC, Below.refl _ _⟩
    · obtain rfl := Option.some.inj ho
      have dg : v 19 = .bool false := hall ⟨19, .guard⟩ (by simp) rfl _ rfl
      refine gn (by simp [Region.wanted, yielded, dg]) ?_
      exact ⟨own_pd _ rfl rfl, hC, Below.refl _ _⟩
    · obtain rfl := Option.some.inj ho
      have dg : v 19 = .bool false := hall ⟨19, .guard⟩ (by simp) rfl _ rfl
      refine gn (by simp [Region.wanted, yielded, dg]) ?_
      exact ⟨own_pd _ rfl rfl, hC, Below.refl _ _⟩
    · obtain rfl := Option.some.inj ho
      have dg : v 19 = .bool false := hall ⟨19, .guard⟩ (by simp) rfl _ rfl
      refine gn (by simp [Region.wanted, yielded, dg]) ?_
      exact ⟨own_pd _ rfl rfl, hC, Below.refl _ _⟩
    · obtain rfl := Option.some.inj ho
      have dg : v 22 = undef := hall ⟨22, .guard⟩ (by simp) rfl _ rfl
      refine gn (by simp [Region.wanted, yielded, dg, undef]) ?_
      exact ⟨own_pd _ rfl rfl, hC, Below.refl _ _⟩
    · obtain rfl := Option.some.inj ho
      have dg : v 22 = undef := hall ⟨22, .guard⟩ (by simp) rfl _ rfl
      refine gn (by simp [Region.wanted, yielded, dg, undef]) ?_
      exact ⟨own_pd _ rfl rfl, hC, Below.refl _ _⟩
    · obtain rfl := Option.some.inj ho
      have dg : v 19 = .bool false := hall ⟨19, .guard⟩ (by simp) rfl _ rfl
      refine gn (by simp [Region.wanted, yielded, dg]) ?_
      exact ⟨own_pd _ rfl rfl, hC, Below.refl _ _⟩
    · obtain rfl := Option.some.inj ho
      have dg : v 16 = .bool false := hall ⟨16, .guard⟩ (by simp) rfl _ rfl
      have d19 : v 19 = .bool false := hall ⟨19, .data⟩ (by simp) rfl _ rfl
      refine gw (by simp [Region.wanted, yielded, dg]) (g_pickf _ _ _ _ (show v 19 = _ from d19) rfl ?_)
      exact ⟨own_pd _ rfl rfl, hC, Below.refl _ _⟩
    · obtain rfl := Option.some.inj ho
      have d16 : v 16 = .bool false := hall ⟨16, .data⟩ (by simp) rfl _ rfl
      have d26 : v 26 = .bool false := hall ⟨26, .data⟩ (by simp) rfl _ rfl
      refine gw rfl (g_pickf _ _ _ _ (show v 16 = _ from d16) (show v 26 = _ from d26) ?_)
      exact ⟨own_pd _ rfl rfl, hC, Below.refl _ _⟩
    · simp at ho
  · simp only [full, Act.put, List.setIfInBounds_toArray, List.set_cons_succ, List.set_cons_zero, Nat.zero_add, Nat.reduceAdd]
    intro v w11 hC hall
    have d0 : v 0 = .agg (nl (a)).toArray := hall 0 _ (by decide) rfl
    (try rw [d0])
    clear d0
    generalize v 1 = y1_1
    have d2 : v 2 = .bool true := hall 2 _ (by decide) rfl
    (try rw [d2])
    clear d2
    have d3 : v 3 = .int .i64 (0) := hall 3 _ (by decide) rfl
    (try rw [d3])
    clear d3
    have d4 : v 4 = .bool true := hall 4 _ (by decide) rfl
    (try rw [d4])
    clear d4
    have d5 : v 5 = .bool false := hall 5 _ (by decide) rfl
    (try rw [d5])
    clear d5
    have d6 : v 6 = .bool false := hall 6 _ (by decide) rfl
    (try rw [d6])
    clear d6
    have d7 : v 7 = .int .i64 (0) := hall 7 _ (by decide) rfl
    (try rw [d7])
    clear d7
    have d8 : v 8 = .bool true := hall 8 _ (by decide) rfl
    (try rw [d8])
    clear d8
    have d9 : v 9 = .bool true := hall 9 _ (by decide) rfl
    (try rw [d9])
    clear d9
    have d10 : v 10 = .int .i64 (a) := hall 10 _ (by decide) rfl
    (try rw [d10])
    clear d10
    have d11 : v 11 = .agg (nl (a)).toArray := hall 11 _ (by decide) rfl
    (try rw [d11])
    clear d11
    have d12 : v 12 = .agg (nl (a)).toArray := hall 12 _ (by decide) rfl
    (try rw [d12])
    clear d12
    have d13 : v 13 = .bool false := hall 13 _ (by decide) rfl
    (try rw [d13])
    clear d13
    have d14 : v 14 = .bool false := hall 14 _ (by decide) rfl
    (try rw [d14])
    clear d14
    have d15 : v 15 = .bool false := hall 15 _ (by decide) rfl
    (try rw [d15])
    clear d15
    have d16 : v 16 = .bool false := hall 16 _ (by decide) rfl
    (try rw [d16])
    clear d16
    have d17 : v 17 = .int .i64 (0) := hall 17 _ (by decide) rfl
    (try rw [d17])
    clear d17
    have d18 : v 18 = .bool false := hall 18 _ (by decide) rfl
    (try rw [d18])
    clear d18
    have d19 : v 19 = .bool false := hall 19 _ (by decide) rfl
    (try rw [d19])
    clear d19
    generalize v 20 = y1_20
    generalize v 21 = y1_21
    generalize v 22 = y1_22
    generalize v 23 = y1_23
    generalize v 24 = y1_24
    generalize v 25 = y1_25
    have d26 : v 26 = .bool false := hall 26 _ (by decide) rfl
    (try rw [d26])
    clear d26
    have d27 : v 27 = .bool false := hall 27 _ (by decide) rfl
    (try rw [d27])
    clear d27
    clear hall
    replace b_a := b_a.below hC b_a.lt
    replace b_b := b_b.below hC b_b.lt
    replace b_s := b_s.below hC b_s.lt
    replace b_d := b_d.below hC b_d.lt
    replace hB := hB.trans (hC.mono hB.size)
    clear hC
    go_wp2_with (first
      | ((with_reducible refine stop_region 8 ?_); intro X2 hX2))
    refine hX2.out ?_
    clear hX2
    refine wp_region_pred (by kernel_rfl) (by kernel_rfl) [.eq (.agg (nl (0)).toArray), .eq (.int .i64 (6)), .eq (.agg (nl (a)).toArray), .rn (a), .eq (.agg (nl (b)).toArray), .rn (b), .rn (a + b), .eq (.bool true), .eq (.bool true), .eq (.agg (nl (a - b)).toArray), .eq (.int .i64 (0)), .eq (.agg (nl (a)).toArray), .rn (a), .eq (.agg (nl (b)).toArray), .rn (b), .rn (-b), .rn (a - b), .eq (.bool true), .eq (.bool true), .eq (.bool true), .eq (.agg (nl (a)).toArray), .eq (.agg (nl (b)).toArray), .eq (.int .i64 (R)), .eq (.agg (nl (a)).toArray), .rn (a), .eq (.agg (nl (b)).toArray), .rn (b), .eq (.int .i64 (R)), .eq (.bool true), .eq (.bool true), .eq (.bool true)] (List.replicate 31 none) (fun wx => Below w11.heap.size w11 wx) ?_ ?_ ?_ ?_
    · exact nobs _ _
    · exact (Below.refl _ _).drew
    · simp only [full, Act.put, List.setIfInBounds_toArray, List.set_cons_succ, List.set_cons_zero, Nat.zero_add, Nat.reduceAdd]
      intro i o ho v wx hC hall
      rcases i with _ | _ | _ | _ | _ | _ | _ | _ | _ | _ | _ | _ | _ | _ | _ | _ | _ | _ | _ | _ | _ | _ | _ | _ | _ | _ | _ | _ | _ | _ | _ | i
      · obtain rfl := Option.some.inj ho
        refine gw rfl (g_load_all 24 _ (w4.heap.size) (nl (0)) 24 _ rfl (b_s.below hC b_s.lt) Try.underlying24 rfl (sz24 0) ?_)
        exact ⟨own_pd _ rfl rfl, hC, Below.refl _ _⟩
      · obtain rfl := Option.some.inj ho
        refine gw rfl (g_move _ _ rfl ?_)
        exact ⟨own_pd _ rfl rfl, hC, Below.refl _ _⟩
      · obtain rfl := Option.some.inj ho
        refine gw rfl (g_load_all 24 _ (w.heap.size) (nl (a)) 24 _ rfl (b_a.below hC b_a.lt) Try.underlying24 rfl (sz24 0) ?_)
        exact ⟨own_pd _ rfl rfl, hC, Below.refl _ _⟩
      · obtain rfl := Option.some.inj ho
        have d2 : v 2 = .agg (nl (a)).toArray := hall ⟨2, .data⟩ (by simp) rfl _ rfl
        refine gw rfl (g_call 16 _ _ [.agg (nl (a)).toArray] (kf16 _ _) (by show ([v 2] : List Value) = _; rw [d2]; (try rfl)) ((ref_any a wx w_a).mono ?_))
        rintro e w' ⟨u_, rfl, hp, hb⟩
        exact ⟨_, rfl, own_pd _ rfl hp, hC.trans (hb.mono hC.size), hb⟩
      · obtain rfl := Option.some.inj ho
        refine gw rfl (g_load_all 24 _ (w1.heap.size) (nl (b)) 24 _ rfl (b_b.below hC b_b.lt) Try.underlying24 rfl (sz24 0) ?_)
        exact ⟨own_pd _ rfl rfl, hC, Below.refl _ _⟩
      · obtain rfl := Option.some.inj ho
        have d4 : v 4 = .agg (nl (b)).toArray := hall ⟨4, .data⟩ (by simp) rfl _ rfl
        refine gw rfl (g_call 16 _ _ [.agg (nl (b)).toArray] (kf16 _ _) (by show ([v 4] : List Value) = _; rw [d4]; (try rfl)) ((ref_any b wx w_b).mono ?_))
        rintro e w' ⟨u_, rfl, hp, hb⟩
        exact ⟨_, rfl, own_pd _ rfl hp, hC.trans (hb.mono hC.size), hb⟩
      · obtain rfl := Option.some.inj ho
        have d3 : RN wx (v 3) (a) := hall ⟨3, .data⟩ (by simp) rfl _ rfl
        have d5 : RN wx (v 5) (b) := hall ⟨5, .data⟩ (by simp) rfl _ rfl
        refine gw rfl (g_call 19 _ _ [v 3, v 5] (kf19 _ _) (rfl) ((radd_any _ _ a b (a + b) wx d3 d5 fa fb rfl).mono ?_))
        rintro e w' ⟨u_, rfl, hp, hb⟩
        exact ⟨_, rfl, own_pd _ rfl hp, hC.trans (hb.mono hC.size), hb⟩
      · obtain rfl := Option.some.inj ho
        have d0 : v 0 = .agg (nl (0)).toArray := hall ⟨0, .data⟩ (by simp) rfl _ rfl
        have d1 : v 1 = .int .i64 (6) := hall ⟨1, .data⟩ (by simp) rfl _ rfl
        have d6 : RN wx (v 6) (a + b) := hall ⟨6, .data⟩ (by simp) rfl _ rfl
        refine gw rfl (g_call 18 _ _ [.agg (nl (0)).toArray, .int .i64 (6), v 6] (kf18 _ _) (by show ([v 0, v 1, v 6] : List Value) = _; rw [d0, d1]; (try rfl)) ((same_over _ (a + b) wx d6 fs hAd).mono ?_))
        rintro e w' ⟨rfl, hb⟩
        exact ⟨_, rfl, own_pd _ rfl rfl, hC.trans (hb.mono hC.size), hb⟩
      · obtain rfl := Option.some.inj ho
        have d7 : v 7 = .bool true := hall ⟨7, .data⟩ (by simp) rfl _ rfl
        refine gw rfl (g_move _ _ (show v 7 = _ from d7) ?_)
        exact ⟨own_pd _ rfl rfl, hC, Below.refl _ _⟩
      · obtain rfl := Option.some.inj ho
        have dg : v 8 = .bool true := hall ⟨8, .guard⟩ (by simp) rfl _ rfl
        refine gw (by simp [Region.wanted, yielded, dg]) (g_load_all 24 _ (w7.heap.size) (nl (a - b)) 24 _ rfl (b_d.below hC b_d.lt) Try.underlying24 rfl (sz24 0) ?_)
        exact ⟨own_pd _ rfl rfl, hC, Below.refl _ _⟩
      · obtain rfl := Option.some.inj ho
        have dg : v 8 = .bool true := hall ⟨8, .guard⟩ (by simp) rfl _ rfl
        refine gw (by simp [Region.wanted, yielded, dg]) (g_move _ _ rfl ?_)
        exact ⟨own_pd _ rfl rfl, hC, Below.refl _ _⟩
      · obtain rfl := Option.some.inj ho
        have dg : v 8 = .bool true := hall ⟨8, .guard⟩ (by simp) rfl _ rfl
        refine gw (by simp [Region.wanted, yielded, dg]) (g_load_all 24 _ (w.heap.size) (nl (a)) 24 _ rfl (b_a.below hC b_a.lt) Try.underlying24 rfl (sz24 0) ?_)
        exact ⟨own_pd _ rfl rfl, hC, Below.refl _ _⟩
      · obtain rfl := Option.some.inj ho
        have dg : v 8 = .bool true := hall ⟨8, .guard⟩ (by simp) rfl _ rfl
        have d11 : v 11 = .agg (nl (a)).toArray := hall ⟨11, .data⟩ (by simp) rfl _ rfl
        refine gw (by simp [Region.wanted, yielded, dg]) (g_call 16 _ _ [.agg (nl (a)).toArray] (kf16 _ _) (by show ([v 11] : List Value) = _; rw [d11]; (try rfl)) ((ref_any a wx w_a).mono ?_))
        rintro e w' ⟨u_, rfl, hp, hb⟩
        exact ⟨_, rfl, own_pd _ rfl hp, hC.trans (hb.mono hC.size), hb⟩
      · obtain rfl := Option.some.inj ho
        have dg : v 8 = .bool true := hall ⟨8, .guard⟩ (by simp) rfl _ rfl
        refine gw (by simp [Region.wanted, yielded, dg]) (g_load_all 24 _ (w1.heap.size) (nl (b)) 24 _ rfl (b_b.below hC b_b.lt) Try.underlying24 rfl (sz24 0) ?_)
        exact ⟨own_pd _ rfl rfl, hC, Below.refl _ _⟩
      · obtain rfl := Option.some.inj ho
        have dg : v 8 = .bool true := hall ⟨8, .guard⟩ (by simp) rfl _ rfl
        have d13 : v 13 = .agg (nl (b)).toArray := hall ⟨13, .data⟩ (by simp) rfl _ rfl
        refine gw (by simp [Region.wanted, yielded, dg]) (g_call 16 _ _ [.agg (nl (b)).toArray] (kf16 _ _) (by show ([v 13] : List Value) = _; rw [d13]; (try rfl)) ((ref_any b wx w_b).mono ?_))
        rintro e w' ⟨u_, rfl, hp, hb⟩
        exact ⟨_, rfl, own_pd _ rfl hp, hC.trans (hb.mono hC.size), hb⟩
      · obtain rfl := Option.some.inj ho
        have dg : v 8 = .bool true := hall ⟨8, .guard⟩ (by simp) rfl _ rfl
        have d14 : RN wx (v 14) (b) := hall ⟨14, .data⟩ (by simp) rfl _ rfl
        refine gw (by simp [Region.wanted, yielded, dg]) (g_call 20 _ _ [v 14] (kf20 _ _) (rfl) ((less_any _ b wx d14 fb).mono ?_))
        rintro e w' ⟨u_, rfl, hp, hb⟩
        exact ⟨_, rfl, own_pd _ rfl hp, hC.trans (hb.mono hC.size), hb⟩
      · obtain rfl := Option.some.inj ho
        have dg : v 8 = .bool true := hall ⟨8, .guard⟩ (by simp) rfl _ rfl
        have d12 : RN wx (v 12) (a) := hall ⟨12, .data⟩ (by simp) rfl _ rfl
        have d15 : RN wx (v 15) (-b) := hall ⟨15, .data⟩ (by simp) rfl _ rfl
        refine gw (by simp [Region.wanted, yielded, dg]) (g_call 19 _ _ [v 12, v 15] (kf19 _ _) (rfl) ((radd_any _ _ a (-b) (a - b) wx d12 d15 fa fnb hab).mono ?_))
        rintro e w' ⟨u_, rfl, hp, hb⟩
        exact ⟨_, rfl, own_pd _ rfl hp, hC.trans (hb.mono hC.size), hb⟩
      · obtain rfl := Option.some.inj ho
        have dg : v 8 = .bool true := hall ⟨8, .guard⟩ (by simp) rfl _ rfl
        have d9 : v 9 = .agg (nl (a - b)).toArray := hall ⟨9, .data⟩ (by simp) rfl _ rfl
        have d10 : v 10 = .int .i64 (0) := hall ⟨10, .data⟩ (by simp) rfl _ rfl
        have d16 : RN wx (v 16) (a - b) := hall ⟨16, .data⟩ (by simp) rfl _ rfl
        refine gw (by simp [Region.wanted, yielded, dg]) (g_call 18 _ _ [.agg (nl (a - b)).toArray, .int .i64 (0), v 16] (kf18 _ _) (by show ([v 9, v 10, v 16] : List Value) = _; rw [d9, d10]; (try rfl)) ((same_ok _ (a - b) wx d16 fd hSu).mono ?_))
        rintro e w' ⟨rfl, hb⟩
        exact ⟨_, rfl, own_pd _ rfl rfl, hC.trans (hb.mono hC.size), hb⟩
      · obtain rfl := Option.some.inj ho
        have d8 : v 8 = .bool true := hall ⟨8, .data⟩ (by simp) rfl _ rfl
        have d17 : v 17 = .bool true := hall ⟨17, .data⟩ (by simp) rfl _ rfl
        refine gw rfl (g_pickt _ _ _ _ (show v 8 = _ from d8) (show v 17 = _ from d17) ?_)
        exact ⟨own_pd _ rfl rfl, hC, Below.refl _ _⟩
      · obtain rfl := Option.some.inj ho
        have d18 : v 18 = .bool true := hall ⟨18, .data⟩ (by simp) rfl _ rfl
        refine gw rfl (g_move _ _ (show v 18 = _ from d18) ?_)
        exact ⟨own_pd _ rfl rfl, hC, Below.refl _ _⟩
      · obtain rfl := Option.some.inj ho
        have dg : v 19 = .bool true := hall ⟨19, .guard⟩ (by simp) rfl _ rfl
        refine gw (by simp [Region.wanted, yielded, dg]) (g_load_all 24 _ (w.heap.size) (nl (a)) 24 _ rfl (b_a.below hC b_a.lt) Try.underlying24 rfl (sz24 0) ?_)
        exact ⟨own_pd _ rfl rfl, hC, Below.refl _ _⟩
      · obtain rfl := Option.some.inj ho
        have dg : v 19 = .bool true := hall ⟨19, .guard⟩ (by simp) rfl _ rfl
        refine gw (by simp [Region.wanted, yielded, dg]) (g_load_all 24 _ (w1.heap.size) (nl (b)) 24 _ rfl (b_b.below hC b_b.lt) Try.underlying24 rfl (sz24 0) ?_)
        exact ⟨own_pd _ rfl rfl, hC, Below.refl _ _⟩
      · obtain rfl := Option.some.inj ho
        have dg : v 19 = .bool true := hall ⟨19, .guard⟩ (by simp) rfl _ rfl
        have d20 : v 20 = .agg (nl (a)).toArray := hall ⟨20, .data⟩ (by simp) rfl _ rfl
        have d21 : v 21 = .agg (nl (b)).toArray := hall ⟨21, .data⟩ (by simp) rfl _ rfl
        refine gw (by simp [Region.wanted, yielded, dg]) (g_call 21 _ _ [.agg (nl (a)).toArray, .agg (nl (b)).toArray] (kf21 _ _) (by show ([v 20, v 21] : List Value) = _; rw [d20, d21]; (try rfl)) ((cmp_any a b wx R hR).mono ?_))
        rintro e w' ⟨rfl, hb⟩
        exact ⟨_, rfl, own_pd _ rfl rfl, hC.trans (hb.mono hC.size), hb⟩
      · obtain rfl := Option.some.inj ho
        have dg : v 19 = .bool true := hall ⟨19, .guard⟩ (by simp) rfl _ rfl
        refine gw (by simp [Region.wanted, yielded, dg]) (g_load_all 24 _ (w.heap.size) (nl (a)) 24 _ rfl (b_a.below hC b_a.lt) Try.underlying24 rfl (sz24 0) ?_)
        exact ⟨own_pd _ rfl rfl, hC, Below.refl _ _⟩
      · obtain rfl := Option.some.inj ho
        have dg : v 19 = .bool true := hall ⟨19, .guard⟩ (by simp) rfl _ rfl
        have d23 : v 23 = .agg (nl (a)).toArray := hall ⟨23, .data⟩ (by simp) rfl _ rfl
        refine gw (by simp [Region.wanted, yielded, dg]) (g_call 16 _ _ [.agg (nl (a)).toArray] (kf16 _ _) (by show ([v 23] : List Value) = _; rw [d23]; (try rfl)) ((ref_any a wx w_a).mono ?_))
        rintro e w' ⟨u_, rfl, hp, hb⟩
        exact ⟨_, rfl, own_pd _ rfl hp, hC.trans (hb.mono hC.size), hb⟩
      · obtain rfl := Option.some.inj ho
        have dg : v 19 = .bool true := hall ⟨19, .guard⟩ (by simp) rfl _ rfl
        refine gw (by simp [Region.wanted, yielded, dg]) (g_load_all 24 _ (w1.heap.size) (nl (b)) 24 _ rfl (b_b.below hC b_b.lt) Try.underlying24 rfl (sz24 0) ?_)
        exact ⟨own_pd _ rfl rfl, hC, Below.refl _ _⟩
      · obtain rfl := Option.some.inj ho
        have dg : v 19 = .bool true := hall ⟨19, .guard⟩ (by simp) rfl _ rfl
        have d25 : v 25 = .agg (nl (b)).toArray := hall ⟨25, .data⟩ (by simp) rfl _ rfl
        refine gw (by simp [Region.wanted, yielded, dg]) (g_call 16 _ _ [.agg (nl (b)).toArray] (kf16 _ _) (by show ([v 25] : List Value) = _; rw [d25]; (try rfl)) ((ref_any b wx w_b).mono ?_))
        rintro e w' ⟨u_, rfl, hp, hb⟩
        exact ⟨_, rfl, own_pd _ rfl hp, hC.trans (hb.mono hC.size), hb⟩
      · obtain rfl := Option.some.inj ho
        have dg : v 19 = .bool true := hall ⟨19, .guard⟩ (by simp) rfl _ rfl
        have d24 : RN wx (v 24) (a) := hall ⟨24, .data⟩ (by simp) rfl _ rfl
        have d26 : RN wx (v 26) (b) := hall ⟨26, .data⟩ (by simp) rfl _ rfl
        refine gw (by simp [Region.wanted, yielded, dg]) (g_call 22 _ _ [v 24, v 26] (kf22 _ _) (rfl) ((rcmp_any _ _ a b R wx d24 d26 fa fb hR).mono ?_))
        rintro e w' ⟨rfl, hb⟩
        exact ⟨_, rfl, own_pd _ rfl rfl, hC.trans (hb.mono hC.size), hb⟩
      · obtain rfl := Option.some.inj ho
        have dg : v 19 = .bool true := hall ⟨19, .guard⟩ (by simp) rfl _ rfl
        have d22 : v 22 = .int .i64 (R) := hall ⟨22, .data⟩ (by simp) rfl _ rfl
        have d27 : v 27 = .int .i64 (R) := hall ⟨27, .data⟩ (by simp) rfl _ rfl
        refine gw (by simp [Region.wanted, yielded, dg]) (g_ieq 3 _ _ .i64 _ _ true (show v 22 = _ from d22) (show v 27 = _ from d27) (decide_eq_true rfl) ?_)
        exact ⟨own_pd _ rfl rfl, hC, Below.refl _ _⟩
      · obtain rfl := Option.some.inj ho
        have d19 : v 19 = .bool true := hall ⟨19, .data⟩ (by simp) rfl _ rfl
        have d28 : v 28 = .bool true := hall ⟨28, .data⟩ (by simp) rfl _ rfl
        refine gw rfl (g_pickt _ _ _ _ (show v 19 = _ from d19) (show v 28 = _ from d28) ?_)
        exact ⟨own_pd _ rfl rfl, hC, Below.refl _ _⟩
      · obtain rfl := Option.some.inj ho
        have d29 : v 29 = .bool true := hall ⟨29, .data⟩ (by simp) rfl _ rfl
        refine gw rfl (g_assign _ _ (show v 29 = _ from d29) ?_)
        exact ⟨own_pd _ rfl rfl, hC, Below.refl _ _⟩
      · simp at ho
    · simp only [full, Act.put, List.setIfInBounds_toArray, List.set_cons_succ, List.set_cons_zero, Nat.zero_add, Nat.reduceAdd]
      intro v w12 hC hall
      have d0 : v 0 = .agg (nl (0)).toArray := hall 0 _ (by decide) rfl
      (try rw [d0])
      clear d0
      have d1 : v 1 = .int .i64 (6) := hall 1 _ (by decide) rfl
      (try rw [d1])
      clear d1
      have d2 : v 2 = .agg (nl (a)).toArray := hall 2 _ (by decide) rfl
      (try rw [d2])
      clear d2
      generalize v 3 = y2_3
      have d4 : v 4 = .agg (nl (b)).toArray := hall 4 _ (by decide) rfl
      (try rw [d4])
      clear d4
      generalize v 5 = y2_5
      generalize v 6 = y2_6
      have d7 : v 7 = .bool true := hall 7 _ (by decide) rfl
      (try rw [d7])
      clear d7
      have d8 : v 8 = .bool true := hall 8 _ (by decide) rfl
      (try rw [d8])
      clear d8
      have d9 : v 9 = .agg (nl (a - b)).toArray := hall 9 _ (by decide) rfl
      (try rw [d9])
      clear d9
      have d10 : v 10 = .int .i64 (0) := hall 10 _ (by decide) rfl
      (try rw [d10])
      clear d10
      have d11 : v 11 = .agg (nl (a)).toArray := hall 11 _ (by decide) rfl
      (try rw [d11])
      clear d11
      generalize v 12 = y2_12
      have d13 : v 13 = .agg (nl (b)).toArray := hall 13 _ (by decide) rfl
      (try rw [d13])
      clear d13
      generalize v 14 = y2_14
      generalize v 15 = y2_15
      generalize v 16 = y2_16
      have d17 : v 17 = .bool true := hall 17 _ (by decide) rfl
      (try rw [d17])
      clear d17
      have d18 : v 18 = .bool true := hall 18 _ (by decide) rfl
      (try rw [d18])
      clear d18
      have d19 : v 19 = .bool true := hall 19 _ (by decide) rfl
      (try rw [d19])
      clear d19
      have d20 : v 20 = .agg (nl (a)).toArray := hall 20 _ (by decide) rfl
      (try rw [d20])
      clear d20
      have d21 : v 21 = .agg (nl (b)).toArray := hall 21 _ (by decide) rfl
      (try rw [d21])
      clear d21
      have d22 : v 22 = .int .i64 (R) := hall 22 _ (by decide) rfl
      (try rw [d22])
      clear d22
      have d23 : v 23 = .agg (nl (a)).toArray := hall 23 _ (by decide) rfl
      (try rw [d23])
      clear d23
      generalize v 24 = y2_24
      have d25 : v 25 = .agg (nl (b)).toArray := hall 25 _ (by decide) rfl
      (try rw [d25])
      clear d25
      generalize v 26 = y2_26
      have d27 : v 27 = .int .i64 (R) := hall 27 _ (by decide) rfl
      (try rw [d27])
      clear d27
      have d28 : v 28 = .bool true := hall 28 _ (by decide) rfl
      (try rw [d28])
      clear d28
      have d29 : v 29 = .bool true := hall 29 _ (by decide) rfl
      (try rw [d29])
      clear d29
      have d30 : v 30 = .bool true := hall 30 _ (by decide) rfl
      (try rw [d30])
      clear d30
      clear hall
      replace b_a := b_a.below hC b_a.lt
      replace b_b := b_b.below hC b_b.lt
      replace b_s := b_s.below hC b_s.lt
      replace b_d := b_d.below hC b_d.lt
      replace hB := hB.trans (hC.mono hB.size)
      clear hC
      go_wp2_with fail
      go_ret
      exact ⟨rfl, hB⟩

set_option maxRecDepth 10000 in
set_option maxHeartbeats 16000000 in
theorem walk100 (a : Int) (b : Int) (w_a : In128 a) (w_b : In128 b) (w : World) (R : Int) (hR : Hid (cmpI a b = R)) (fa : Few a 200) (fb : Few b 200) (fnb : Few (-b) 200) (fs : Few (a + b) 200) (fd : Few (a - b) 200) (hIn : In64 a) (hAd : ¬ In128 (a + b)) (hSu : ¬ In128 (a - b)) :
    Calls Try.prog 3 #[.agg (nl a).toArray, .agg (nl b).toArray] w fun e w' => e = .returned (.bool true) ∧ Below w.heap.size w w' := by
  have hab : Hid (a + -b = a - b) := by show _ = _; omega
  have hfi : Hid (decide (-((2 : Int) ^ 63) ≤ a ∧ a < (2 : Int) ^ 63) = true) := decide_eq_true hIn
  go_enter Try.func3, Try.ntmps3
  go_wp2_with (first
    | ((with_reducible refine at_boxD 2 24 ?_); refine L_box 24 _ (nl (a)) rfl ?_; intro w1 t_ b_a; have l_a : w.heap.size ≤ w.heap.size := Nat.le_refl _; have hB : Below w.heap.size w w1 := t_.below (Below.refl _ _) (Nat.le_refl _); clear t_)
    | ((with_reducible refine at_boxD 3 24 ?_); refine L_box 24 _ (nl (b)) rfl ?_; intro w2 t_ b_b; have l_b : w.heap.size ≤ w1.heap.size := hB.size; have o_b := b_a.lt; replace b_a := t_.blk b_a (by omega); replace hB := t_.below hB l_b; clear t_))
  refine (awake_any w2).mono ?_
  rintro e w3 ⟨rfl, t_⟩
  replace b_a := b_a.below t_ b_a.lt
  replace b_b := b_b.below t_ b_b.lt
  replace hB := hB.trans (t_.mono hB.size)
  clear t_
  go_wp2_with (first
    | ((with_reducible refine at_loadD 14 24 ?_); refine L_load_all 24 _ (w.heap.size) (nl (a)) 24 _ rfl b_a Try.underlying24 rfl (sz24 0) ?_)
    | ((with_reducible refine at_loadD 15 24 ?_); refine L_load_all 24 _ (w1.heap.size) (nl (b)) 24 _ rfl b_b Try.underlying24 rfl (sz24 0) ?_))
  refine (add_over a b w3 w_a w_b hAd).mono ?_
  rintro e w4 ⟨rfl, t_⟩
  replace b_a := b_a.below t_ b_a.lt
  replace b_b := b_b.below t_ b_b.lt
  replace hB := hB.trans (t_.mono hB.size)
  clear t_
  go_wp2_with (first
    | ((with_reducible refine at_allocD 5 24 ?_); refine L_alloc 24 (nl (0)) zero24 ?_; intro w5 t_ b_s; have l_s : w.heap.size ≤ w4.heap.size := hB.size; have o_s := b_b.lt; replace b_a := t_.blk b_a (by omega); replace b_b := t_.blk b_b (by omega); replace hB := t_.below hB l_s; clear t_)
    | ((with_reducible refine at_storeX 5 24 ?_); refine L_store_all 24 _ _ (w4.heap.size) (nl (0)) _ 24 rfl rfl b_s (sz24 0) (rfl) (one_nl _) ?_; have b0_s := b_s; clear b_s; intro w6 t_ b_s; replace b_a := t_.blk b_a (by omega); replace b_b := t_.blk b_b (by omega); replace hB := t_.below hB l_s; clear t_ b0_s)
    | ((with_reducible refine at_loadD 20 24 ?_); refine L_load_all 24 _ (w.heap.size) (nl (a)) 24 _ rfl b_a Try.underlying24 rfl (sz24 0) ?_)
    | ((with_reducible refine at_loadD 21 24 ?_); refine L_load_all 24 _ (w1.heap.size) (nl (b)) 24 _ rfl b_b Try.underlying24 rfl (sz24 0) ?_))
  refine (sub_over a b w6 w_a w_b hSu).mono ?_
  rintro e w7 ⟨rfl, t_⟩
  replace b_a := b_a.below t_ b_a.lt
  replace b_b := b_b.below t_ b_b.lt
  replace b_s := b_s.below t_ b_s.lt
  replace hB := hB.trans (t_.mono hB.size)
  clear t_
  go_wp2_with (first
    | ((with_reducible refine at_allocD 7 24 ?_); refine L_alloc 24 (nl (0)) zero24 ?_; intro w8 t_ b_d; have l_d : w.heap.size ≤ w7.heap.size := hB.size; have o_d := b_s.lt; replace b_a := t_.blk b_a (by omega); replace b_b := t_.blk b_b (by omega); replace b_s := t_.blk b_s (by omega); replace hB := t_.below hB l_d; clear t_)
    | ((with_reducible refine at_storeX 7 24 ?_); refine L_store_all 24 _ _ (w7.heap.size) (nl (0)) _ 24 rfl rfl b_d (sz24 0) (rfl) (one_nl _) ?_; have b0_d := b_d; clear b_d; intro w9 t_ b_d; replace b_a := t_.blk b_a (by omega); replace b_b := t_.blk b_b (by omega); replace b_s := t_.blk b_s (by omega); replace hB := t_.below hB l_d; clear t_ b0_d)
    | ((with_reducible refine at_loadD 26 24 ?_); refine L_load_all 24 _ (w.heap.size) (nl (a)) 24 _ rfl b_a Try.underlying24 rfl (sz24 0) ?_))
  refine (int_ok a w9 hIn).mono ?_
  rintro e w10 ⟨rfl, t_⟩
  replace b_a := b_a.below t_ b_a.lt
  replace b_b := b_b.below t_ b_b.lt
  replace b_s := b_s.below t_ b_s.lt
  replace b_d := b_d.below t_ b_d.lt
  replace hB := hB.trans (t_.mono hB.size)
  clear t_
  go_wp2_with (first
    | ((with_reducible refine stop_region 6 ?_); intro X1 hX1))
  refine hX1.out ?_
  clear hX1
  refine wp_region_pred (by kernel_rfl) (by kernel_rfl) [.eq (.agg (nl (a)).toArray), .rn (a), .eq (.bool true), .eq (.int .i64 (0)), .eq (.bool true), .eq (.bool false), .eq (.bool false), .eq (.int .i64 (0)), .eq (.bool true), .eq (.bool true), .eq (.int .i64 (a)), .eq (.agg (nl (a)).toArray), .eq (.agg (nl (a)).toArray), .eq (.bool false), .eq (.bool false), .eq (.bool false), .eq (.bool false), .eq (.int .i64 (0)), .eq (.bool false), .eq (.bool false), .eq undef, .eq undef, .eq undef, .eq undef, .eq undef, .eq undef, .eq (.bool false), .eq (.bool false)] (List.replicate 28 none) (fun wx => Below w10.heap.size w10 wx) ?_ ?_ ?_ ?_
  · exact nobs _ _
  · exact (Below.refl _ _).drew
  · simp only [full, Act.put, List.setIfInBounds_toArray, List.set_cons_succ, List.set_cons_zero, Nat.zero_add, Nat.reduceAdd]
    intro i o ho v wx hC hall
    rcases i with _ | _ | _ | _ | _ | _ | _ | _ | _ | _ | _ | _ | _ | _ | _ | _ | _ | _ | _ | _ | _ | _ | _ | _ | _ | _ | _ | _ | i
    · obtain rfl := Option.some.inj ho
      refine gw rfl (g_load_all 24 _ (w.heap.size) (nl (a)) 24 _ rfl (b_a.below hC b_a.lt) Try.underlying24 rfl (sz24 0) ?_)
      exact ⟨own_pd _ rfl rfl, hC, Below.refl _ _⟩
    · obtain rfl := Option.some.inj ho
      have d0 : v 0 = .agg (nl (a)).toArray := hall ⟨0, .data⟩ (by simp) rfl _ rfl
      refine gw rfl (g_call 16 _ _ [.agg (nl (a)).toArray] (kf16 _ _) (by show ([v 0] : List Value) = _; rw [d0]; (try rfl)) ((ref_any a wx w_a).mono ?_))
      rintro e w' ⟨u_, rfl, hp, hb⟩
      exact ⟨_, rfl, own_pd _ rfl hp, hC.trans (hb.mono hC.size), hb⟩
    · obtain rfl := Option.some.inj ho
      have d1 : RN wx (v 1) (a) := hall ⟨1, .data⟩ (by simp) rfl _ rfl
      refine gw rfl (g_call 15 _ _ [v 1, .int .i64 (63)] (kf15 _ _) (rfl) ((fits_any _ a 63 wx true d1 fa hfi).mono ?_))
      rintro e w' ⟨rfl, hb⟩
      exact ⟨_, rfl, own_pd _ rfl rfl, hC.trans (hb.mono hC.size), hb⟩
    · obtain rfl := Option.some.inj ho
      refine gw rfl (g_move _ _ rfl ?_)
      exact ⟨own_pd _ rfl rfl, hC, Below.refl _ _⟩
    · obtain rfl := Option.some.inj ho
      have d3 : v 3 = .int .i64 (0) := hall ⟨3, .data⟩ (by simp) rfl _ rfl
      refine gw rfl (g_ieq 26 _ _ .i64 _ _ true (show v 3 = _ from d3) rfl (by decide) ?_)
      exact ⟨own_pd _ rfl rfl, hC, Below.refl _ _⟩
    · obtain rfl := Option.some.inj ho
      have d2 : v 2 = .bool true := hall ⟨2, .data⟩ (by simp) rfl _ rfl
      have d4 : v 4 = .bool true := hall ⟨4, .data⟩ (by simp) rfl _ rfl
      refine gw rfl (g_bneq _ _ _ _ (show v 2 = _ from d2) (show v 4 = _ from d4) ?_)
      exact ⟨own_pd _ rfl rfl, hC, Below.refl _ _⟩
    · obtain rfl := Option.some.inj ho
      have d5 : v 5 = .bool false := hall ⟨5, .data⟩ (by simp) rfl _ rfl
      refine gw rfl (g_move _ _ (show v 5 = _ from d5) ?_)
      exact ⟨own_pd _ rfl rfl, hC, Below.refl _ _⟩
    · obtain rfl := Option.some.inj ho
      have dg : v 6 = .bool false := hall ⟨6, .guard⟩ (by simp) rfl _ rfl
      refine gw (by simp [Region.wanted, yielded, dg]) (g_move _ _ rfl ?_)
      exact ⟨own_pd _ rfl rfl, hC, Below.refl _ _⟩
    · obtain rfl := Option.some.inj ho
      have dg : v 6 = .bool false := hall ⟨6, .guard⟩ (by simp) rfl _ rfl
      have d7 : v 7 = .int .i64 (0) := hall ⟨7, .data⟩ (by simp) rfl _ rfl
      refine gw (by simp [Region.wanted, yielded, dg]) (g_ieq 26 _ _ .i64 _ _ true (show v 7 = _ from d7) rfl (by decide) ?_)
      exact ⟨own_pd _ rfl rfl, hC, Below.refl _ _⟩
    · obtain rfl := Option.some.inj ho
      have dg : v 6 = .bool false := hall ⟨6, .guard⟩ (by simp) rfl _ rfl
      have d8 : v 8 = .bool true := hall ⟨8, .data⟩ (by simp) rfl _ rfl
      refine gw (by simp [Region.wanted, yielded, dg]) (g_move _ _ (show v 8 = _ from d8) ?_)
      exact ⟨own_pd _ rfl rfl, hC, Below.refl _ _⟩
    · obtain rfl := Option.some.inj ho
      have dg : v 9 = .bool true := hall ⟨9, .guard⟩ (by simp) rfl _ rfl
      refine gw (by simp [Region.wanted, yielded, dg]) (g_move _ _ rfl ?_)
      exact ⟨own_pd _ rfl rfl, hC, Below.refl _ _⟩
    · obtain rfl := Option.some.inj ho
      have dg : v 9 = .bool true := hall ⟨9, .guard⟩ (by simp) rfl _ rfl
      have d10 : v 10 = .int .i64 (a) := hall ⟨10, .data⟩ (by simp) rfl _ rfl
      refine gw (by simp [Region.wanted, yielded, dg]) (g_call 17 _ _ [.int .i64 (a)] (kf17 _ _) (by show ([v 10] : List Value) = _; rw [d10]; (try rfl)) ((of_any a wx hIn).mono ?_))
      rintro e w' ⟨rfl, hb⟩
      exact ⟨_, rfl, own_pd _ rfl rfl, hC.trans (hb.mono hC.size), hb⟩
    · obtain rfl := Option.some.inj ho
      have dg : v 9 = .bool true := hall ⟨9, .guard⟩ (by simp) rfl _ rfl
      refine gw (by simp [Region.wanted, yielded, dg]) (g_load_all 24 _ (w.heap.size) (nl (a)) 24 _ rfl (b_a.below hC b_a.lt) Try.underlying24 rfl (sz24 0) ?_)
      exact ⟨own_pd _ rfl rfl, hC, Below.refl _ _⟩
    · obtain rfl := Option.some.inj ho
      have dg : v 9 = .bool true := hall ⟨9, .guard⟩ (by simp) rfl _ rfl
      have d11 : v 11 = .agg (nl (a)).toArray := hall ⟨11, .data⟩ (by simp) rfl _ rfl
      have d12 : v 12 = .agg (nl (a)).toArray := hall ⟨12, .data⟩ (by simp) rfl _ rfl
      refine gw (by simp [Region.wanted, yielded, dg]) (g_neq24 _ _ (a) (a) true (show v 11 = _ from d11) (show v 12 = _ from d12) (decide_eq_true rfl) ?_)
      exact ⟨own_pd _ rfl rfl, hC, Below.refl _ _⟩
    · obtain rfl := Option.some.inj ho
      have dg : v 6 = .bool false := hall ⟨6, .guard⟩ (by simp) rfl _ rfl
      have d9 : v 9 = .bool true := hall ⟨9, .data⟩ (by simp) rfl _ rfl
      have d13 : v 13 = .bool false := hall ⟨13, .data⟩ (by simp) rfl _ rfl
      refine gw (by simp [Region.wanted, yielded, dg]) (g_pickt _ _ _ _ (show v 9 = _ from d9) (show v 13 = _ from d13) ?_)
      exact ⟨own_pd _ rfl rfl, hC, Below.refl _ _⟩
    · obtain rfl := Option.some.inj ho
      have d6 : v 6 = .bool false := hall ⟨6, .data⟩ (by simp) rfl _ rfl
      have d14 : v 14 = .bool false := hall ⟨14, .data⟩ (by simp) rfl _ rfl
      refine gw rfl (g_pickf _ _ _ _ (show v 6 = _ from d6) (show v 14 = _ from d14) ?_)
      exact ⟨own_pd _ rfl rfl, hC, Below.refl _ _⟩
    · obtain rfl := Option.some.inj ho
      have d15 : v 15 = .bool false := hall ⟨15, .data⟩ (by simp) rfl _ rfl
      refine gw rfl (g_move _ _ (show v 15 = _ from d15) ?_)
      exact ⟨own_pd _ rfl rfl, hC, Below.refl _ _⟩
    · obtain rfl := Option.some.inj ho
      have dg : v 16 = .bool false := hall ⟨16, .guard⟩ (by simp) rfl _ rfl
      refine gw (by simp [Region.wanted, yielded, dg]) (g_move _ _ rfl ?_)
      exact ⟨own_pd _ rfl rfl, hC, Below.refl _ _⟩
    · obtain rfl := Option.some.inj ho
      have dg : v 16 = .bool false := hall ⟨16, .guard⟩ (by simp) rfl _ rfl
      have d17 : v 17 = .int .i64 (0) := hall ⟨17, .data⟩ (by simp) rfl _ rfl
      refine gw (by simp [Region.wanted, yielded, dg]) (g_ine 26 _ _ .i64 _ _ false (show v 17 = _ from d17) rfl (by decide) ?_)
      exact ⟨own_pd _ rfl rfl, hC, Below.refl _ _⟩
    · obtain rfl := Option.some.inj ho
      have dg : v 16 = .bool false := hall ⟨16, .guard⟩ (by simp) rfl _ rfl
      have d18 : v 18 = .bool false := hall ⟨18, .data⟩ (by simp) rfl _ rfl
      refine gw (by simp [Region.wanted, yielded, dg]) (g_move _ _ (show v 18 = _ from d18) ?_)
      exact ⟨own_pd _ rfl rfl, hC, Below.refl _ _⟩
    · obtain rfl := Option.some.inj ho
      have dg : v 19 = .bool false := hall ⟨19, .guard⟩ (by simp) rfl _ rfl
      refine gn (by simp [Region.wanted, yielded, dg]) ?_
      exact ⟨own_pd _ rfl rfl, hC, Below.refl _ _⟩
    · obtain rfl := Option.some.inj ho
      have dg : v 19 = .bool false := hall ⟨19, .guard⟩ (by simp) rfl _ rfl
      refine gn (by simp [Region.wanted, yielded, dg]) ?_
      exact ⟨own_pd _ rfl rfl, hC, Below.refl _ _⟩
    · obtain rfl := Option.some.inj ho
      have dg : v 19 = .bool false := hall ⟨19, .guard⟩ (by simp) rfl _ rfl
      refine gn (by simp [Region.wanted, yielded, dg]) ?_
      exact ⟨own_pd _ rfl rfl, hC, Below.refl _ _⟩
    · obtain rfl := Option.some.inj ho
      have dg : v 22 = undef := hall ⟨22, .guard⟩ (by simp) rfl _ rfl
      refine gn (by simp [Region.wanted, yielded, dg, undef]) ?_
      exact ⟨own_pd _ rfl rfl, hC, Below.refl _ _⟩
    · obtain rfl := Option.some.inj ho
      have dg : v 22 = undef := hall ⟨22, .guard⟩ (by simp) rfl _ rfl
      refine gn (by simp [Region.wanted, yielded, dg, undef]) ?_
      exact ⟨own_pd _ rfl rfl, hC, Below.refl _ _⟩
    · obtain rfl := Option.some.inj ho
      have dg : v 19 = .bool false := hall ⟨19, .guard⟩ (by simp) rfl _ rfl
      refine gn (by simp [Region.wanted, yielded, dg]) ?_
      exact ⟨own_pd _ rfl rfl, hC, Below.refl _ _⟩
    · obtain rfl := Option.some.inj ho
      have dg : v 16 = .bool false := hall ⟨16, .guard⟩ (by simp) rfl _ rfl
      have d19 : v 19 = .bool false := hall ⟨19, .data⟩ (by simp) rfl _ rfl
      refine gw (by simp [Region.wanted, yielded, dg]) (g_pickf _ _ _ _ (show v 19 = _ from d19) rfl ?_)
      exact ⟨own_pd _ rfl rfl, hC, Below.refl _ _⟩
    · obtain rfl := Option.some.inj ho
      have d16 : v 16 = .bool false := hall ⟨16, .data⟩ (by simp) rfl _ rfl
      have d26 : v 26 = .bool false := hall ⟨26, .data⟩ (by simp) rfl _ rfl
      refine gw rfl (g_pickf _ _ _ _ (show v 16 = _ from d16) (show v 26 = _ from d26) ?_)
      exact ⟨own_pd _ rfl rfl, hC, Below.refl _ _⟩
    · simp at ho
  · simp only [full, Act.put, List.setIfInBounds_toArray, List.set_cons_succ, List.set_cons_zero, Nat.zero_add, Nat.reduceAdd]
    intro v w11 hC hall
    have d0 : v 0 = .agg (nl (a)).toArray := hall 0 _ (by decide) rfl
    (try rw [d0])
    clear d0
    generalize v 1 = y1_1
    have d2 : v 2 = .bool true := hall 2 _ (by decide) rfl
    (try rw [d2])
    clear d2
    have d3 : v 3 = .int .i64 (0) := hall 3 _ (by decide) rfl
    (try rw [d3])
    clear d3
    have d4 : v 4 = .bool true := hall 4 _ (by decide) rfl
    (try rw [d4])
    clear d4
    have d5 : v 5 = .bool false := hall 5 _ (by decide) rfl
    (try rw [d5])
    clear d5
    have d6 : v 6 = .bool false := hall 6 _ (by decide) rfl
    (try rw [d6])
    clear d6
    have d7 : v 7 = .int .i64 (0) := hall 7 _ (by decide) rfl
    (try rw [d7])
    clear d7
    have d8 : v 8 = .bool true := hall 8 _ (by decide) rfl
    (try rw [d8])
    clear d8
    have d9 : v 9 = .bool true := hall 9 _ (by decide) rfl
    (try rw [d9])
    clear d9
    have d10 : v 10 = .int .i64 (a) := hall 10 _ (by decide) rfl
    (try rw [d10])
    clear d10
    have d11 : v 11 = .agg (nl (a)).toArray := hall 11 _ (by decide) rfl
    (try rw [d11])
    clear d11
    have d12 : v 12 = .agg (nl (a)).toArray := hall 12 _ (by decide) rfl
    (try rw [d12])
    clear d12
    have d13 : v 13 = .bool false := hall 13 _ (by decide) rfl
    (try rw [d13])
    clear d13
    have d14 : v 14 = .bool false := hall 14 _ (by decide) rfl
    (try rw [d14])
    clear d14
    have d15 : v 15 = .bool false := hall 15 _ (by decide) rfl
    (try rw [d15])
    clear d15
    have d16 : v 16 = .bool false := hall 16 _ (by decide) rfl
    (try rw [d16])
    clear d16
    have d17 : v 17 = .int .i64 (0) := hall 17 _ (by decide) rfl
    (try rw [d17])
    clear d17
    have d18 : v 18 = .bool false := hall 18 _ (by decide) rfl
    (try rw [d18])
    clear d18
    have d19 : v 19 = .bool false := hall 19 _ (by decide) rfl
    (try rw [d19])
    clear d19
    generalize v 20 = y1_20
    generalize v 21 = y1_21
    generalize v 22 = y1_22
    generalize v 23 = y1_23
    generalize v 24 = y1_24
    generalize v 25 = y1_25
    have d26 : v 26 = .bool false := hall 26 _ (by decide) rfl
    (try rw [d26])
    clear d26
    have d27 : v 27 = .bool false := hall 27 _ (by decide) rfl
    (try rw [d27])
    clear d27
    clear hall
    replace b_a := b_a.below hC b_a.lt
    replace b_b := b_b.below hC b_b.lt
    replace b_s := b_s.below hC b_s.lt
    replace b_d := b_d.below hC b_d.lt
    replace hB := hB.trans (hC.mono hB.size)
    clear hC
    go_wp2_with (first
      | ((with_reducible refine stop_region 8 ?_); intro X2 hX2))
    refine hX2.out ?_
    clear hX2
    refine wp_region_pred (by kernel_rfl) (by kernel_rfl) [.eq (.agg (nl (0)).toArray), .eq (.int .i64 (6)), .eq (.agg (nl (a)).toArray), .rn (a), .eq (.agg (nl (b)).toArray), .rn (b), .rn (a + b), .eq (.bool true), .eq (.bool true), .eq (.agg (nl (0)).toArray), .eq (.int .i64 (6)), .eq (.agg (nl (a)).toArray), .rn (a), .eq (.agg (nl (b)).toArray), .rn (b), .rn (-b), .rn (a - b), .eq (.bool true), .eq (.bool true), .eq (.bool true), .eq (.agg (nl (a)).toArray), .eq (.agg (nl (b)).toArray), .eq (.int .i64 (R)), .eq (.agg (nl (a)).toArray), .rn (a), .eq (.agg (nl (b)).toArray), .rn (b), .eq (.int .i64 (R)), .eq (.bool true), .eq (.bool true), .eq (.bool true)] (List.replicate 31 none) (fun wx => Below w11.heap.size w11 wx) ?_ ?_ ?_ ?_
    · exact nobs _ _
    · exact (Below.refl _ _).drew
    · simp only [full, Act.put, List.setIfInBounds_toArray, List.set_cons_succ, List.set_cons_zero, Nat.zero_add, Nat.reduceAdd]
      intro i o ho v wx hC hall
      rcases i with _ | _ | _ | _ | _ | _ | _ | _ | _ | _ | _ | _ | _ | _ | _ | _ | _ | _ | _ | _ | _ | _ | _ | _ | _ | _ | _ | _ | _ | _ | _ | i
      · obtain rfl := Option.some.inj ho
        refine gw rfl (g_load_all 24 _ (w4.heap.size) (nl (0)) 24 _ rfl (b_s.below hC b_s.lt) Try.underlying24 rfl (sz24 0) ?_)
        exact ⟨own_pd _ rfl rfl, hC, Below.refl _ _⟩
      · obtain rfl := Option.some.inj ho
        refine gw rfl (g_move _ _ rfl ?_)
        exact ⟨own_pd _ rfl rfl, hC, Below.refl _ _⟩
      · obtain rfl := Option.some.inj ho
        refine gw rfl (g_load_all 24 _ (w.heap.size) (nl (a)) 24 _ rfl (b_a.below hC b_a.lt) Try.underlying24 rfl (sz24 0) ?_)
        exact ⟨own_pd _ rfl rfl, hC, Below.refl _ _⟩
      · obtain rfl := Option.some.inj ho
        have d2 : v 2 = .agg (nl (a)).toArray := hall ⟨2, .data⟩ (by simp) rfl _ rfl
        refine gw rfl (g_call 16 _ _ [.agg (nl (a)).toArray] (kf16 _ _) (by show ([v 2] : List Value) = _; rw [d2]; (try rfl)) ((ref_any a wx w_a).mono ?_))
        rintro e w' ⟨u_, rfl, hp, hb⟩
        exact ⟨_, rfl, own_pd _ rfl hp, hC.trans (hb.mono hC.size), hb⟩
      · obtain rfl := Option.some.inj ho
        refine gw rfl (g_load_all 24 _ (w1.heap.size) (nl (b)) 24 _ rfl (b_b.below hC b_b.lt) Try.underlying24 rfl (sz24 0) ?_)
        exact ⟨own_pd _ rfl rfl, hC, Below.refl _ _⟩
      · obtain rfl := Option.some.inj ho
        have d4 : v 4 = .agg (nl (b)).toArray := hall ⟨4, .data⟩ (by simp) rfl _ rfl
        refine gw rfl (g_call 16 _ _ [.agg (nl (b)).toArray] (kf16 _ _) (by show ([v 4] : List Value) = _; rw [d4]; (try rfl)) ((ref_any b wx w_b).mono ?_))
        rintro e w' ⟨u_, rfl, hp, hb⟩
        exact ⟨_, rfl, own_pd _ rfl hp, hC.trans (hb.mono hC.size), hb⟩
      · obtain rfl := Option.some.inj ho
        have d3 : RN wx (v 3) (a) := hall ⟨3, .data⟩ (by simp) rfl _ rfl
        have d5 : RN wx (v 5) (b) := hall ⟨5, .data⟩ (by simp) rfl _ rfl
        refine gw rfl (g_call 19 _ _ [v 3, v 5] (kf19 _ _) (rfl) ((radd_any _ _ a b (a + b) wx d3 d5 fa fb rfl).mono ?_))
        rintro e w' ⟨u_, rfl, hp, hb⟩
        exact ⟨_, rfl, own_pd _ rfl hp, hC.trans (hb.mono hC.size), hb⟩
      · obtain rfl := Option.some.inj ho
        have d0 : v 0 = .agg (nl (0)).toArray := hall ⟨0, .data⟩ (by simp) rfl _ rfl
        have d1 : v 1 = .int .i64 (6) := hall ⟨1, .data⟩ (by simp) rfl _ rfl
        have d6 : RN wx (v 6) (a + b) := hall ⟨6, .data⟩ (by simp) rfl _ rfl
        refine gw rfl (g_call 18 _ _ [.agg (nl (0)).toArray, .int .i64 (6), v 6] (kf18 _ _) (by show ([v 0, v 1, v 6] : List Value) = _; rw [d0, d1]; (try rfl)) ((same_over _ (a + b) wx d6 fs hAd).mono ?_))
        rintro e w' ⟨rfl, hb⟩
        exact ⟨_, rfl, own_pd _ rfl rfl, hC.trans (hb.mono hC.size), hb⟩
      · obtain rfl := Option.some.inj ho
        have d7 : v 7 = .bool true := hall ⟨7, .data⟩ (by simp) rfl _ rfl
        refine gw rfl (g_move _ _ (show v 7 = _ from d7) ?_)
        exact ⟨own_pd _ rfl rfl, hC, Below.refl _ _⟩
      · obtain rfl := Option.some.inj ho
        have dg : v 8 = .bool true := hall ⟨8, .guard⟩ (by simp) rfl _ rfl
        refine gw (by simp [Region.wanted, yielded, dg]) (g_load_all 24 _ (w7.heap.size) (nl (0)) 24 _ rfl (b_d.below hC b_d.lt) Try.underlying24 rfl (sz24 0) ?_)
        exact ⟨own_pd _ rfl rfl, hC, Below.refl _ _⟩
      · obtain rfl := Option.some.inj ho
        have dg : v 8 = .bool true := hall ⟨8, .guard⟩ (by simp) rfl _ rfl
        refine gw (by simp [Region.wanted, yielded, dg]) (g_move _ _ rfl ?_)
        exact ⟨own_pd _ rfl rfl, hC, Below.refl _ _⟩
      · obtain rfl := Option.some.inj ho
        have dg : v 8 = .bool true := hall ⟨8, .guard⟩ (by simp) rfl _ rfl
        refine gw (by simp [Region.wanted, yielded, dg]) (g_load_all 24 _ (w.heap.size) (nl (a)) 24 _ rfl (b_a.below hC b_a.lt) Try.underlying24 rfl (sz24 0) ?_)
        exact ⟨own_pd _ rfl rfl, hC, Below.refl _ _⟩
      · obtain rfl := Option.some.inj ho
        have dg : v 8 = .bool true := hall ⟨8, .guard⟩ (by simp) rfl _ rfl
        have d11 : v 11 = .agg (nl (a)).toArray := hall ⟨11, .data⟩ (by simp) rfl _ rfl
        refine gw (by simp [Region.wanted, yielded, dg]) (g_call 16 _ _ [.agg (nl (a)).toArray] (kf16 _ _) (by show ([v 11] : List Value) = _; rw [d11]; (try rfl)) ((ref_any a wx w_a).mono ?_))
        rintro e w' ⟨u_, rfl, hp, hb⟩
        exact ⟨_, rfl, own_pd _ rfl hp, hC.trans (hb.mono hC.size), hb⟩
      · obtain rfl := Option.some.inj ho
        have dg : v 8 = .bool true := hall ⟨8, .guard⟩ (by simp) rfl _ rfl
        refine gw (by simp [Region.wanted, yielded, dg]) (g_load_all 24 _ (w1.heap.size) (nl (b)) 24 _ rfl (b_b.below hC b_b.lt) Try.underlying24 rfl (sz24 0) ?_)
        exact ⟨own_pd _ rfl rfl, hC, Below.refl _ _⟩
      · obtain rfl := Option.some.inj ho
        have dg : v 8 = .bool true := hall ⟨8, .guard⟩ (by simp) rfl _ rfl
        have d13 : v 13 = .agg (nl (b)).toArray := hall ⟨13, .data⟩ (by simp) rfl _ rfl
        refine gw (by simp [Region.wanted, yielded, dg]) (g_call 16 _ _ [.agg (nl (b)).toArray] (kf16 _ _) (by show ([v 13] : List Value) = _; rw [d13]; (try rfl)) ((ref_any b wx w_b).mono ?_))
        rintro e w' ⟨u_, rfl, hp, hb⟩
        exact ⟨_, rfl, own_pd _ rfl hp, hC.trans (hb.mono hC.size), hb⟩
      · obtain rfl := Option.some.inj ho
        have dg : v 8 = .bool true := hall ⟨8, .guard⟩ (by simp) rfl _ rfl
        have d14 : RN wx (v 14) (b) := hall ⟨14, .data⟩ (by simp) rfl _ rfl
        refine gw (by simp [Region.wanted, yielded, dg]) (g_call 20 _ _ [v 14] (kf20 _ _) (rfl) ((less_any _ b wx d14 fb).mono ?_))
        rintro e w' ⟨u_, rfl, hp, hb⟩
        exact ⟨_, rfl, own_pd _ rfl hp, hC.trans (hb.mono hC.size), hb⟩
      · obtain rfl := Option.some.inj ho
        have dg : v 8 = .bool true := hall ⟨8, .guard⟩ (by simp) rfl _ rfl
        have d12 : RN wx (v 12) (a) := hall ⟨12, .data⟩ (by simp) rfl _ rfl
        have d15 : RN wx (v 15) (-b) := hall ⟨15, .data⟩ (by simp) rfl _ rfl
        refine gw (by simp [Region.wanted, yielded, dg]) (g_call 19 _ _ [v 12, v 15] (kf19 _ _) (rfl) ((radd_any _ _ a (-b) (a - b) wx d12 d15 fa fnb hab).mono ?_))
        rintro e w' ⟨u_, rfl, hp, hb⟩
        exact ⟨_, rfl, own_pd _ rfl hp, hC.trans (hb.mono hC.size), hb⟩
      · obtain rfl := Option.some.inj ho
        have dg : v 8 = .bool true := hall ⟨8, .guard⟩ (by simp) rfl _ rfl
        have d9 : v 9 = .agg (nl (0)).toArray := hall ⟨9, .data⟩ (by simp) rfl _ rfl
        have d10 : v 10 = .int .i64 (6) := hall ⟨10, .data⟩ (by simp) rfl _ rfl
        have d16 : RN wx (v 16) (a - b) := hall ⟨16, .data⟩ (by simp) rfl _ rfl
        refine gw (by simp [Region.wanted, yielded, dg]) (g_call 18 _ _ [.agg (nl (0)).toArray, .int .i64 (6), v 16] (kf18 _ _) (by show ([v 9, v 10, v 16] : List Value) = _; rw [d9, d10]; (try rfl)) ((same_over _ (a - b) wx d16 fd hSu).mono ?_))
        rintro e w' ⟨rfl, hb⟩
        exact ⟨_, rfl, own_pd _ rfl rfl, hC.trans (hb.mono hC.size), hb⟩
      · obtain rfl := Option.some.inj ho
        have d8 : v 8 = .bool true := hall ⟨8, .data⟩ (by simp) rfl _ rfl
        have d17 : v 17 = .bool true := hall ⟨17, .data⟩ (by simp) rfl _ rfl
        refine gw rfl (g_pickt _ _ _ _ (show v 8 = _ from d8) (show v 17 = _ from d17) ?_)
        exact ⟨own_pd _ rfl rfl, hC, Below.refl _ _⟩
      · obtain rfl := Option.some.inj ho
        have d18 : v 18 = .bool true := hall ⟨18, .data⟩ (by simp) rfl _ rfl
        refine gw rfl (g_move _ _ (show v 18 = _ from d18) ?_)
        exact ⟨own_pd _ rfl rfl, hC, Below.refl _ _⟩
      · obtain rfl := Option.some.inj ho
        have dg : v 19 = .bool true := hall ⟨19, .guard⟩ (by simp) rfl _ rfl
        refine gw (by simp [Region.wanted, yielded, dg]) (g_load_all 24 _ (w.heap.size) (nl (a)) 24 _ rfl (b_a.below hC b_a.lt) Try.underlying24 rfl (sz24 0) ?_)
        exact ⟨own_pd _ rfl rfl, hC, Below.refl _ _⟩
      · obtain rfl := Option.some.inj ho
        have dg : v 19 = .bool true := hall ⟨19, .guard⟩ (by simp) rfl _ rfl
        refine gw (by simp [Region.wanted, yielded, dg]) (g_load_all 24 _ (w1.heap.size) (nl (b)) 24 _ rfl (b_b.below hC b_b.lt) Try.underlying24 rfl (sz24 0) ?_)
        exact ⟨own_pd _ rfl rfl, hC, Below.refl _ _⟩
      · obtain rfl := Option.some.inj ho
        have dg : v 19 = .bool true := hall ⟨19, .guard⟩ (by simp) rfl _ rfl
        have d20 : v 20 = .agg (nl (a)).toArray := hall ⟨20, .data⟩ (by simp) rfl _ rfl
        have d21 : v 21 = .agg (nl (b)).toArray := hall ⟨21, .data⟩ (by simp) rfl _ rfl
        refine gw (by simp [Region.wanted, yielded, dg]) (g_call 21 _ _ [.agg (nl (a)).toArray, .agg (nl (b)).toArray] (kf21 _ _) (by show ([v 20, v 21] : List Value) = _; rw [d20, d21]; (try rfl)) ((cmp_any a b wx R hR).mono ?_))
        rintro e w' ⟨rfl, hb⟩
        exact ⟨_, rfl, own_pd _ rfl rfl, hC.trans (hb.mono hC.size), hb⟩
      · obtain rfl := Option.some.inj ho
        have dg : v 19 = .bool true := hall ⟨19, .guard⟩ (by simp) rfl _ rfl
        refine gw (by simp [Region.wanted, yielded, dg]) (g_load_all 24 _ (w.heap.size) (nl (a)) 24 _ rfl (b_a.below hC b_a.lt) Try.underlying24 rfl (sz24 0) ?_)
        exact ⟨own_pd _ rfl rfl, hC, Below.refl _ _⟩
      · obtain rfl := Option.some.inj ho
        have dg : v 19 = .bool true := hall ⟨19, .guard⟩ (by simp) rfl _ rfl
        have d23 : v 23 = .agg (nl (a)).toArray := hall ⟨23, .data⟩ (by simp) rfl _ rfl
        refine gw (by simp [Region.wanted, yielded, dg]) (g_call 16 _ _ [.agg (nl (a)).toArray] (kf16 _ _) (by show ([v 23] : List Value) = _; rw [d23]; (try rfl)) ((ref_any a wx w_a).mono ?_))
        rintro e w' ⟨u_, rfl, hp, hb⟩
        exact ⟨_, rfl, own_pd _ rfl hp, hC.trans (hb.mono hC.size), hb⟩
      · obtain rfl := Option.some.inj ho
        have dg : v 19 = .bool true := hall ⟨19, .guard⟩ (by simp) rfl _ rfl
        refine gw (by simp [Region.wanted, yielded, dg]) (g_load_all 24 _ (w1.heap.size) (nl (b)) 24 _ rfl (b_b.below hC b_b.lt) Try.underlying24 rfl (sz24 0) ?_)
        exact ⟨own_pd _ rfl rfl, hC, Below.refl _ _⟩
      · obtain rfl := Option.some.inj ho
        have dg : v 19 = .bool true := hall ⟨19, .guard⟩ (by simp) rfl _ rfl
        have d25 : v 25 = .agg (nl (b)).toArray := hall ⟨25, .data⟩ (by simp) rfl _ rfl
        refine gw (by simp [Region.wanted, yielded, dg]) (g_call 16 _ _ [.agg (nl (b)).toArray] (kf16 _ _) (by show ([v 25] : List Value) = _; rw [d25]; (try rfl)) ((ref_any b wx w_b).mono ?_))
        rintro e w' ⟨u_, rfl, hp, hb⟩
        exact ⟨_, rfl, own_pd _ rfl hp, hC.trans (hb.mono hC.size), hb⟩
      · obtain rfl := Option.some.inj ho
        have dg : v 19 = .bool true := hall ⟨19, .guard⟩ (by simp) rfl _ rfl
        have d24 : RN wx (v 24) (a) := hall ⟨24, .data⟩ (by simp) rfl _ rfl
        have d26 : RN wx (v 26) (b) := hall ⟨26, .data⟩ (by simp) rfl _ rfl
        refine gw (by simp [Region.wanted, yielded, dg]) (g_call 22 _ _ [v 24, v 26] (kf22 _ _) (rfl) ((rcmp_any _ _ a b R wx d24 d26 fa fb hR).mono ?_))
        rintro e w' ⟨rfl, hb⟩
        exact ⟨_, rfl, own_pd _ rfl rfl, hC.trans (hb.mono hC.size), hb⟩
      · obtain rfl := Option.some.inj ho
        have dg : v 19 = .bool true := hall ⟨19, .guard⟩ (by simp) rfl _ rfl
        have d22 : v 22 = .int .i64 (R) := hall ⟨22, .data⟩ (by simp) rfl _ rfl
        have d27 : v 27 = .int .i64 (R) := hall ⟨27, .data⟩ (by simp) rfl _ rfl
        refine gw (by simp [Region.wanted, yielded, dg]) (g_ieq 3 _ _ .i64 _ _ true (show v 22 = _ from d22) (show v 27 = _ from d27) (decide_eq_true rfl) ?_)
        exact ⟨own_pd _ rfl rfl, hC, Below.refl _ _⟩
      · obtain rfl := Option.some.inj ho
        have d19 : v 19 = .bool true := hall ⟨19, .data⟩ (by simp) rfl _ rfl
        have d28 : v 28 = .bool true := hall ⟨28, .data⟩ (by simp) rfl _ rfl
        refine gw rfl (g_pickt _ _ _ _ (show v 19 = _ from d19) (show v 28 = _ from d28) ?_)
        exact ⟨own_pd _ rfl rfl, hC, Below.refl _ _⟩
      · obtain rfl := Option.some.inj ho
        have d29 : v 29 = .bool true := hall ⟨29, .data⟩ (by simp) rfl _ rfl
        refine gw rfl (g_assign _ _ (show v 29 = _ from d29) ?_)
        exact ⟨own_pd _ rfl rfl, hC, Below.refl _ _⟩
      · simp at ho
    · simp only [full, Act.put, List.setIfInBounds_toArray, List.set_cons_succ, List.set_cons_zero, Nat.zero_add, Nat.reduceAdd]
      intro v w12 hC hall
      have d0 : v 0 = .agg (nl (0)).toArray := hall 0 _ (by decide) rfl
      (try rw [d0])
      clear d0
      have d1 : v 1 = .int .i64 (6) := hall 1 _ (by decide) rfl
      (try rw [d1])
      clear d1
      have d2 : v 2 = .agg (nl (a)).toArray := hall 2 _ (by decide) rfl
      (try rw [d2])
      clear d2
      generalize v 3 = y2_3
      have d4 : v 4 = .agg (nl (b)).toArray := hall 4 _ (by decide) rfl
      (try rw [d4])
      clear d4
      generalize v 5 = y2_5
      generalize v 6 = y2_6
      have d7 : v 7 = .bool true := hall 7 _ (by decide) rfl
      (try rw [d7])
      clear d7
      have d8 : v 8 = .bool true := hall 8 _ (by decide) rfl
      (try rw [d8])
      clear d8
      have d9 : v 9 = .agg (nl (0)).toArray := hall 9 _ (by decide) rfl
      (try rw [d9])
      clear d9
      have d10 : v 10 = .int .i64 (6) := hall 10 _ (by decide) rfl
      (try rw [d10])
      clear d10
      have d11 : v 11 = .agg (nl (a)).toArray := hall 11 _ (by decide) rfl
      (try rw [d11])
      clear d11
      generalize v 12 = y2_12
      have d13 : v 13 = .agg (nl (b)).toArray := hall 13 _ (by decide) rfl
      (try rw [d13])
      clear d13
      generalize v 14 = y2_14
      generalize v 15 = y2_15
      generalize v 16 = y2_16
      have d17 : v 17 = .bool true := hall 17 _ (by decide) rfl
      (try rw [d17])
      clear d17
      have d18 : v 18 = .bool true := hall 18 _ (by decide) rfl
      (try rw [d18])
      clear d18
      have d19 : v 19 = .bool true := hall 19 _ (by decide) rfl
      (try rw [d19])
      clear d19
      have d20 : v 20 = .agg (nl (a)).toArray := hall 20 _ (by decide) rfl
      (try rw [d20])
      clear d20
      have d21 : v 21 = .agg (nl (b)).toArray := hall 21 _ (by decide) rfl
      (try rw [d21])
      clear d21
      have d22 : v 22 = .int .i64 (R) := hall 22 _ (by decide) rfl
      (try rw [d22])
      clear d22
      have d23 : v 23 = .agg (nl (a)).toArray := hall 23 _ (by decide) rfl
      (try rw [d23])
      clear d23
      generalize v 24 = y2_24
      have d25 : v 25 = .agg (nl (b)).toArray := hall 25 _ (by decide) rfl
      (try rw [d25])
      clear d25
      generalize v 26 = y2_26
      have d27 : v 27 = .int .i64 (R) := hall 27 _ (by decide) rfl
      (try rw [d27])
      clear d27
      have d28 : v 28 = .bool true := hall 28 _ (by decide) rfl
      (try rw [d28])
      clear d28
      have d29 : v 29 = .bool true := hall 29 _ (by decide) rfl
      (try rw [d29])
      clear d29
      have d30 : v 30 = .bool true := hall 30 _ (by decide) rfl
      (try rw [d30])
      clear d30
      clear hall
      replace b_a := b_a.below hC b_a.lt
      replace b_b := b_b.below hC b_b.lt
      replace b_s := b_s.below hC b_s.lt
      replace b_d := b_d.below hC b_d.lt
      replace hB := hB.trans (hC.mono hB.size)
      clear hC
      go_wp2_with fail
      go_ret
      exact ⟨rfl, hB⟩

set_option maxRecDepth 10000 in
set_option maxHeartbeats 16000000 in
theorem walk011 (a : Int) (b : Int) (w_a : In128 a) (w_b : In128 b) (w : World) (R : Int) (hR : Hid (cmpI a b = R)) (fa : Few a 200) (fb : Few b 200) (fnb : Few (-b) 200) (fs : Few (a + b) 200) (fd : Few (a - b) 200) (hIn : ¬ In64 a) (hAd : In128 (a + b)) (hSu : In128 (a - b)) :
    Calls Try.prog 3 #[.agg (nl a).toArray, .agg (nl b).toArray] w fun e w' => e = .returned (.bool true) ∧ Below w.heap.size w w' := by
  have hab : Hid (a + -b = a - b) := by show _ = _; omega
  have hfi : Hid (decide (-((2 : Int) ^ 63) ≤ a ∧ a < (2 : Int) ^ 63) = false) := decide_eq_false hIn
  go_enter Try.func3, Try.ntmps3
  go_wp2_with (first
    | ((with_reducible refine at_boxD 2 24 ?_); refine L_box 24 _ (nl (a)) rfl ?_; intro w1 t_ b_a; have l_a : w.heap.size ≤ w.heap.size := Nat.le_refl _; have hB : Below w.heap.size w w1 := t_.below (Below.refl _ _) (Nat.le_refl _); clear t_)
    | ((with_reducible refine at_boxD 3 24 ?_); refine L_box 24 _ (nl (b)) rfl ?_; intro w2 t_ b_b; have l_b : w.heap.size ≤ w1.heap.size := hB.size; have o_b := b_a.lt; replace b_a := t_.blk b_a (by omega); replace hB := t_.below hB l_b; clear t_))
  refine (awake_any w2).mono ?_
  rintro e w3 ⟨rfl, t_⟩
  replace b_a := b_a.below t_ b_a.lt
  replace b_b := b_b.below t_ b_b.lt
  replace hB := hB.trans (t_.mono hB.size)
  clear t_
  go_wp2_with (first
    | ((with_reducible refine at_loadD 14 24 ?_); refine L_load_all 24 _ (w.heap.size) (nl (a)) 24 _ rfl b_a Try.underlying24 rfl (sz24 0) ?_)
    | ((with_reducible refine at_loadD 15 24 ?_); refine L_load_all 24 _ (w1.heap.size) (nl (b)) 24 _ rfl b_b Try.underlying24 rfl (sz24 0) ?_))
  refine (add_ok a b w3 w_a w_b hAd).mono ?_
  rintro e w4 ⟨rfl, t_⟩
  replace b_a := b_a.below t_ b_a.lt
  replace b_b := b_b.below t_ b_b.lt
  replace hB := hB.trans (t_.mono hB.size)
  clear t_
  go_wp2_with (first
    | ((with_reducible refine at_allocD 5 24 ?_); refine L_alloc 24 (nl (0)) zero24 ?_; intro w5 t_ b_s; have l_s : w.heap.size ≤ w4.heap.size := hB.size; have o_s := b_b.lt; replace b_a := t_.blk b_a (by omega); replace b_b := t_.blk b_b (by omega); replace hB := t_.below hB l_s; clear t_)
    | ((with_reducible refine at_storeX 5 24 ?_); refine L_store_all 24 _ _ (w4.heap.size) (nl (a + b)) _ 24 rfl rfl b_s (sz24 0) (rfl) (one_nl _) ?_; have b0_s := b_s; clear b_s; intro w6 t_ b_s; replace b_a := t_.blk b_a (by omega); replace b_b := t_.blk b_b (by omega); replace hB := t_.below hB l_s; clear t_ b0_s)
    | ((with_reducible refine at_loadD 20 24 ?_); refine L_load_all 24 _ (w.heap.size) (nl (a)) 24 _ rfl b_a Try.underlying24 rfl (sz24 0) ?_)
    | ((with_reducible refine at_loadD 21 24 ?_); refine L_load_all 24 _ (w1.heap.size) (nl (b)) 24 _ rfl b_b Try.underlying24 rfl (sz24 0) ?_))
  refine (sub_ok a b w6 w_a w_b hSu).mono ?_
  rintro e w7 ⟨rfl, t_⟩
  replace b_a := b_a.below t_ b_a.lt
  replace b_b := b_b.below t_ b_b.lt
  replace b_s := b_s.below t_ b_s.lt
  replace hB := hB.trans (t_.mono hB.size)
  clear t_
  go_wp2_with (first
    | ((with_reducible refine at_allocD 7 24 ?_); refine L_alloc 24 (nl (0)) zero24 ?_; intro w8 t_ b_d; have l_d : w.heap.size ≤ w7.heap.size := hB.size; have o_d := b_s.lt; replace b_a := t_.blk b_a (by omega); replace b_b := t_.blk b_b (by omega); replace b_s := t_.blk b_s (by omega); replace hB := t_.below hB l_d; clear t_)
    | ((with_reducible refine at_storeX 7 24 ?_); refine L_store_all 24 _ _ (w7.heap.size) (nl (a - b)) _ 24 rfl rfl b_d (sz24 0) (rfl) (one_nl _) ?_; have b0_d := b_d; clear b_d; intro w9 t_ b_d; replace b_a := t_.blk b_a (by omega); replace b_b := t_.blk b_b (by omega); replace b_s := t_.blk b_s (by omega); replace hB := t_.below hB l_d; clear t_ b0_d)
    | ((with_reducible refine at_loadD 26 24 ?_); refine L_load_all 24 _ (w.heap.size) (nl (a)) 24 _ rfl b_a Try.underlying24 rfl (sz24 0) ?_))
  refine (int_over a w9 hIn).mono ?_
  rintro e w10 ⟨rfl, t_⟩
  replace b_a := b_a.below t_ b_a.lt
  replace b_b := b_b.below t_ b_b.lt
  replace b_s := b_s.below t_ b_s.lt
  replace b_d := b_d.below t_ b_d.lt
  replace hB := hB.trans (t_.mono hB.size)
  clear t_
  go_wp2_with (first
    | ((with_reducible refine stop_region 6 ?_); intro X1 hX1))
  refine hX1.out ?_
  clear hX1
  refine wp_region_pred (by kernel_rfl) (by kernel_rfl) [.eq (.agg (nl (a)).toArray), .rn (a), .eq (.bool false), .eq (.int .i64 (6)), .eq (.bool false), .eq (.bool false), .eq (.bool false), .eq (.int .i64 (6)), .eq (.bool false), .eq (.bool false), .eq undef, .eq undef, .eq undef, .eq undef, .eq (.bool false), .eq (.bool false), .eq (.bool false), .eq (.int .i64 (6)), .eq (.bool true), .eq (.bool true), .eq (.int .i64 (0)), .eq (.bool false), .eq (.bool false), .eq (.int .i64 (6)), .eq (.bool false), .eq (.bool false), .eq (.bool false), .eq (.bool false)] (List.replicate 28 none) (fun wx => Below w10.heap.size w10 wx) ?_ ?_ ?_ ?_
  · exact nobs _ _
  · exact (Below.refl _ _).drew
  · simp only [full, Act.put, List.setIfInBounds_toArray, List.set_cons_succ, List.set_cons_zero, Nat.zero_add, Nat.reduceAdd]
    intro i o ho v wx hC hall
    rcases i with _ | _ | _ | _ | _ | _ | _ | _ | _ | _ | _ | _ | _ | _ | _ | _ | _ | _ | _ | _ | _ | _ | _ | _ | _ | _ | _ | _ | i
    · obtain rfl := Option.some.inj ho
      refine gw rfl (g_load_all 24 _ (w.heap.size) (nl (a)) 24 _ rfl (b_a.below hC b_a.lt) Try.underlying24 rfl (sz24 0) ?_)
      exact ⟨own_pd _ rfl rfl, hC, Below.refl _ _⟩
    · obtain rfl := Option.some.inj ho
      have d0 : v 0 = .agg (nl (a)).toArray := hall ⟨0, .data⟩ (by simp) rfl _ rfl
      refine gw rfl (g_call 16 _ _ [.agg (nl (a)).toArray] (kf16 _ _) (by show ([v 0] : List Value) = _; rw [d0]; (try rfl)) ((ref_any a wx w_a).mono ?_))
      rintro e w' ⟨u_, rfl, hp, hb⟩
      exact ⟨_, rfl, own_pd _ rfl hp, hC.trans (hb.mono hC.size), hb⟩
    · obtain rfl := Option.some.inj ho
      have d1 : RN wx (v 1) (a) := hall ⟨1, .data⟩ (by simp) rfl _ rfl
      refine gw rfl (g_call 15 _ _ [v 1, .int .i64 (63)] (kf15 _ _) (rfl) ((fits_any _ a 63 wx false d1 fa hfi).mono ?_))
      rintro e w' ⟨rfl, hb⟩
      exact ⟨_, rfl, own_pd _ rfl rfl, hC.trans (hb.mono hC.size), hb⟩
    · obtain rfl := Option.some.inj ho
      refine gw rfl (g_move _ _ rfl ?_)
      exact ⟨own_pd _ rfl rfl, hC, Below.refl _ _⟩
    · obtain rfl := Option.some.inj ho
      have d3 : v 3 = .int .i64 (6) := hall ⟨3, .data⟩ (by simp) rfl _ rfl
      refine gw rfl (g_ieq 26 _ _ .i64 _ _ false (show v 3 = _ from d3) rfl (by decide) ?_)
      exact ⟨own_pd _ rfl rfl, hC, Below.refl _ _⟩
    · obtain rfl := Option.some.inj ho
      have d2 : v 2 = .bool false := hall ⟨2, .data⟩ (by simp) rfl _ rfl
      have d4 : v 4 = .bool false := hall ⟨4, .data⟩ (by simp) rfl _ rfl
      refine gw rfl (g_bneq _ _ _ _ (show v 2 = _ from d2) (show v 4 = _ from d4) ?_)
      exact ⟨own_pd _ rfl rfl, hC, Below.refl _ _⟩
    · obtain rfl := Option.some.inj ho
      have d5 : v 5 = .bool false := hall ⟨5, .data⟩ (by simp) rfl _ rfl
      refine gw rfl (g_move _ _ (show v 5 = _ from d5) ?_)
      exact ⟨own_pd _ rfl rfl, hC, Below.refl _ _⟩
    · obtain rfl := Option.some.inj ho
      have dg : v 6 = .bool false := hall ⟨6, .guard⟩ (by simp) rfl _ rfl
      refine gw (by simp [Region.wanted, yielded, dg]) (g_move _ _ rfl ?_)
      exact ⟨own_pd _ rfl rfl, hC, Below.refl _ _⟩
    · obtain rfl := Option.some.inj ho
      have dg : v 6 = .bool false := hall ⟨6, .guard⟩ (by simp) rfl _ rfl
      have d7 : v 7 = .int .i64 (6) := hall ⟨7, .data⟩ (by simp) rfl _ rfl
      refine gw (by simp [Region.wanted, yielded, dg]) (g_ieq 26 _ _ .i64 _ _ false (show v 7 = _ from d7) rfl (by decide) ?_)
      exact ⟨own_pd _ rfl rfl, hC, Below.refl _ _⟩
    · obtain rfl := Option.some.inj ho
      have dg : v 6 = .bool false := hall ⟨6, .guard⟩ (by simp) rfl _ rfl
      have d8 : v 8 = .bool false := hall ⟨8, .data⟩ (by simp) rfl _ rfl
      refine gw (by simp [Region.wanted, yielded, dg]) (g_move _ _ (show v 8 = _ from d8) ?_)
      exact ⟨own_pd _ rfl rfl, hC, Below.refl _ _⟩
    · obtain rfl := Option.some.inj ho
      have dg : v 9 = .bool false := hall ⟨9, .guard⟩ (by simp) rfl _ rfl
      refine gn (by simp [Region.wanted, yielded, dg]) ?_
      exact ⟨own_pd _ rfl rfl, hC, Below.refl _ _⟩
    · obtain rfl := Option.some.inj ho
      have dg : v 9 = .bool false := hall ⟨9, .guard⟩ (by simp) rfl _ rfl
      refine gn (by simp [Region.wanted, yielded, dg]) ?_
      exact ⟨own_pd _ rfl rfl, hC, Below.refl _ _⟩
    · obtain rfl := Option.some.inj ho
      have dg : v 9 = .bool false := hall ⟨9, .guard⟩ (by simp) rfl _ rfl
      refine gn (by simp [Region.wanted, yielded, dg]) ?_
      exact ⟨own_pd _ rfl rfl, hC, Below.refl _ _⟩
    · obtain rfl := Option.some.inj ho
      have dg : v 9 = .bool false := hall ⟨9, .guard⟩ (by simp) rfl _ rfl
      refine gn (by simp [Region.wanted, yielded, dg]) ?_
      exact ⟨own_pd _ rfl rfl, hC, Below.refl _ _⟩
    · obtain rfl := Option.some.inj ho
      have dg : v 6 = .bool false := hall ⟨6, .guard⟩ (by simp) rfl _ rfl
      have d9 : v 9 = .bool false := hall ⟨9, .data⟩ (by simp) rfl _ rfl
      refine gw (by simp [Region.wanted, yielded, dg]) (g_pickf _ _ _ _ (show v 9 = _ from d9) rfl ?_)
      exact ⟨own_pd _ rfl rfl, hC, Below.refl _ _⟩
    · obtain rfl := Option.some.inj ho
      have d6 : v 6 = .bool false := hall ⟨6, .data⟩ (by simp) rfl _ rfl
      have d14 : v 14 = .bool false := hall ⟨14, .data⟩ (by simp) rfl _ rfl
      refine gw rfl (g_pickf _ _ _ _ (show v 6 = _ from d6) (show v 14 = _ from d14) ?_)
      exact ⟨own_pd _ rfl rfl, hC, Below.refl _ _⟩
    · obtain rfl := Option.some.inj ho
      have d15 : v 15 = .bool false := hall ⟨15, .data⟩ (by simp) rfl _ rfl
      refine gw rfl (g_move _ _ (show v 15 = _ from d15) ?_)
      exact ⟨own_pd _ rfl rfl, hC, Below.refl _ _⟩
    · obtain rfl := Option.some.inj ho
      have dg : v 16 = .bool false := hall ⟨16, .guard⟩ (by simp) rfl _ rfl
      refine gw (by simp [Region.wanted, yielded, dg]) (g_move _ _ rfl ?_)
      exact ⟨own_pd _ rfl rfl, hC, Below.refl _ _⟩
    · obtain rfl := Option.some.inj ho
      have dg : v 16 = .bool false := hall ⟨16, .guard⟩ (by simp) rfl _ rfl
      have d17 : v 17 = .int .i64 (6) := hall ⟨17, .data⟩ (by simp) rfl _ rfl
      refine gw (by simp [Region.wanted, yielded, dg]) (g_ine 26 _ _ .i64 _ _ true (show v 17 = _ from d17) rfl (by decide) ?_)
      exact ⟨own_pd _ rfl rfl, hC, Below.refl _ _⟩
    · obtain rfl := Option.some.inj ho
      have dg : v 16 = .bool false := hall ⟨16, .guard⟩ (by simp) rfl _ rfl
      have d18 : v 18 = .bool true := hall ⟨18, .data⟩ (by simp) rfl _ rfl
      refine gw (by simp [Region.wanted, yielded, dg]) (g_move _ _ (show v 18 = _ from d18) ?_)
      exact ⟨own_pd _ rfl rfl, hC, Below.refl _ _⟩
    · obtain rfl := Option.some.inj ho
      have dg : v 19 = .bool true := hall ⟨19, .guard⟩ (by simp) rfl _ rfl
      refine gw (by simp [Region.wanted, yielded, dg]) (g_move _ _ rfl ?_)
      exact ⟨own_pd _ rfl rfl, hC, Below.refl _ _⟩
    · obtain rfl := Option.some.inj ho
      have dg : v 19 = .bool true := hall ⟨19, .guard⟩ (by simp) rfl _ rfl
      have d20 : v 20 = .int .i64 (0) := hall ⟨20, .data⟩ (by simp) rfl _ rfl
      refine gw (by simp [Region.wanted, yielded, dg]) (g_ine 2 _ _ .i64 _ _ false (show v 20 = _ from d20) rfl (by decide) ?_)
      exact ⟨own_pd _ rfl rfl, hC, Below.refl _ _⟩
    · obtain rfl := Option.some.inj ho
      have dg : v 19 = .bool true := hall ⟨19, .guard⟩ (by simp) rfl _ rfl
      have d21 : v 21 = .bool false := hall ⟨21, .data⟩ (by simp) rfl _ rfl
      refine gw (by simp [Region.wanted, yielded, dg]) (g_move _ _ (show v 21 = _ from d21) ?_)
      exact ⟨own_pd _ rfl rfl, hC, Below.refl _ _⟩
    · obtain rfl := Option.some.inj ho
      have dg : v 22 = .bool false := hall ⟨22, .guard⟩ (by simp) rfl _ rfl
      refine gw (by simp [Region.wanted, yielded, dg]) (g_move _ _ rfl ?_)
      exact ⟨own_pd _ rfl rfl, hC, Below.refl _ _⟩
    · obtain rfl := Option.some.inj ho
      have dg : v 22 = .bool false := hall ⟨22, .guard⟩ (by simp) rfl _ rfl
      have d23 : v 23 = .int .i64 (6) := hall ⟨23, .data⟩ (by simp) rfl _ rfl
      refine gw (by simp [Region.wanted, yielded, dg]) (g_ine 26 _ _ .i64 _ _ false (show v 23 = _ from d23) rfl (by decide) ?_)
      exact ⟨own_pd _ rfl rfl, hC, Below.refl _ _⟩
    · obtain rfl := Option.some.inj ho
      have dg : v 19 = .bool true := hall ⟨19, .guard⟩ (by simp) rfl _ rfl
      have d22 : v 22 = .bool false := hall ⟨22, .data⟩ (by simp) rfl _ rfl
      have d24 : v 24 = .bool false := hall ⟨24, .data⟩ (by simp) rfl _ rfl
      refine gw (by simp [Region.wanted, yielded, dg]) (g_pickf _ _ _ _ (show v 22 = _ from d22) (show v 24 = _ from d24) ?_)
      exact ⟨own_pd _ rfl rfl, hC, Below.refl _ _⟩
    · obtain rfl := Option.some.inj ho
      have dg : v 16 = .bool false := hall ⟨16, .guard⟩ (by simp) rfl _ rfl
      have d19 : v 19 = .bool true := hall ⟨19, .data⟩ (by simp) rfl _ rfl
      have d25 : v 25 = .bool false := hall ⟨25, .data⟩ (by simp) rfl _ rfl
      refine gw (by simp [Region.wanted, yielded, dg]) (g_pickt _ _ _ _ (show v 19 = _ from d19) (show v 25 = _ from d25) ?_)
      exact ⟨own_pd _ rfl rfl, hC, Below.refl _ _⟩
    · obtain rfl := Option.some.inj ho
      have d16 : v 16 = .bool false := hall ⟨16, .data⟩ (by simp) rfl _ rfl
      have d26 : v 26 = .bool false := hall ⟨26, .data⟩ (by simp) rfl _ rfl
      refine gw rfl (g_pickf _ _ _ _ (show v 16 = _ from d16) (show v 26 = _ from d26) ?_)
      exact ⟨own_pd _ rfl rfl, hC, Below.refl _ _⟩
    · simp at ho
  · simp only [full, Act.put, List.setIfInBounds_toArray, List.set_cons_succ, List.set_cons_zero, Nat.zero_add, Nat.reduceAdd]
    intro v w11 hC hall
    have d0 : v 0 = .agg (nl (a)).toArray := hall 0 _ (by decide) rfl
    (try rw [d0])
    clear d0
    generalize v 1 = y1_1
    have d2 : v 2 = .bool false := hall 2 _ (by decide) rfl
    (try rw [d2])
    clear d2
    have d3 : v 3 = .int .i64 (6) := hall 3 _ (by decide) rfl
    (try rw [d3])
    clear d3
    have d4 : v 4 = .bool false := hall 4 _ (by decide) rfl
    (try rw [d4])
    clear d4
    have d5 : v 5 = .bool false := hall 5 _ (by decide) rfl
    (try rw [d5])
    clear d5
    have d6 : v 6 = .bool false := hall 6 _ (by decide) rfl
    (try rw [d6])
    clear d6
    have d7 : v 7 = .int .i64 (6) := hall 7 _ (by decide) rfl
    (try rw [d7])
    clear d7
    have d8 : v 8 = .bool false := hall 8 _ (by decide) rfl
    (try rw [d8])
    clear d8
    have d9 : v 9 = .bool false := hall 9 _ (by decide) rfl
    (try rw [d9])
    clear d9
    generalize v 10 = y1_10
    generalize v 11 = y1_11
    generalize v 12 = y1_12
    generalize v 13 = y1_13
    have d14 : v 14 = .bool false := hall 14 _ (by decide) rfl
    (try rw [d14])
    clear d14
    have d15 : v 15 = .bool false := hall 15 _ (by decide) rfl
    (try rw [d15])
    clear d15
    have d16 : v 16 = .bool false := hall 16 _ (by decide) rfl
    (try rw [d16])
    clear d16
    have d17 : v 17 = .int .i64 (6) := hall 17 _ (by decide) rfl
    (try rw [d17])
    clear d17
    have d18 : v 18 = .bool true := hall 18 _ (by decide) rfl
    (try rw [d18])
    clear d18
    have d19 : v 19 = .bool true := hall 19 _ (by decide) rfl
    (try rw [d19])
    clear d19
    have d20 : v 20 = .int .i64 (0) := hall 20 _ (by decide) rfl
    (try rw [d20])
    clear d20
    have d21 : v 21 = .bool false := hall 21 _ (by decide) rfl
    (try rw [d21])
    clear d21
    have d22 : v 22 = .bool false := hall 22 _ (by decide) rfl
    (try rw [d22])
    clear d22
    have d23 : v 23 = .int .i64 (6) := hall 23 _ (by decide) rfl
    (try rw [d23])
    clear d23
    have d24 : v 24 = .bool false := hall 24 _ (by decide) rfl
    (try rw [d24])
    clear d24
    have d25 : v 25 = .bool false := hall 25 _ (by decide) rfl
    (try rw [d25])
    clear d25
    have d26 : v 26 = .bool false := hall 26 _ (by decide) rfl
    (try rw [d26])
    clear d26
    have d27 : v 27 = .bool false := hall 27 _ (by decide) rfl
    (try rw [d27])
    clear d27
    clear hall
    replace b_a := b_a.below hC b_a.lt
    replace b_b := b_b.below hC b_b.lt
    replace b_s := b_s.below hC b_s.lt
    replace b_d := b_d.below hC b_d.lt
    replace hB := hB.trans (hC.mono hB.size)
    clear hC
    go_wp2_with (first
      | ((with_reducible refine stop_region 8 ?_); intro X2 hX2))
    refine hX2.out ?_
    clear hX2
    refine wp_region_pred (by kernel_rfl) (by kernel_rfl) [.eq (.agg (nl (a + b)).toArray), .eq (.int .i64 (0)), .eq (.agg (nl (a)).toArray), .rn (a), .eq (.agg (nl (b)).toArray), .rn (b), .rn (a + b), .eq (.bool true), .eq (.bool true), .eq (.agg (nl (a - b)).toArray), .eq (.int .i64 (0)), .eq (.agg (nl (a)).toArray), .rn (a), .eq (.agg (nl (b)).toArray), .rn (b), .rn (-b), .rn (a - b), .eq (.bool true), .eq (.bool true), .eq (.bool true), .eq (.agg (nl (a)).toArray), .eq (.agg (nl (b)).toArray), .eq (.int .i64 (R)), .eq (.agg (nl (a)).toArray), .rn (a), .eq (.agg (nl (b)).toArray), .rn (b), .eq (.int .i64 (R)), .eq (.bool true), .eq (.bool true), .eq (.bool true)] (List.replicate 31 none) (fun wx => Below w11.heap.size w11 wx) ?_ ?_ ?_ ?_
    · exact nobs _ _
    · exact (Below.refl _ _).drew
    · simp only [full, Act.put, List.setIfInBounds_toArray, List.set_cons_succ, List.set_cons_zero, Nat.zero_add, Nat.reduceAdd]
      intro i o ho v wx hC hall
      rcases i with _ | _ | _ | _ | _ | _ | _ | _ | _ | _ | _ | _ | _ | _ | _ | _ | _ | _ | _ | _ | _ | _ | _ | _ | _ | _ | _ | _ | _ | _ | _ | i
      · obtain rfl := Option.some.inj ho
        refine gw rfl (g_load_all 24 _ (w4.heap.size) (nl (a + b)) 24 _ rfl (b_s.below hC b_s.lt) Try.underlying24 rfl (sz24 0) ?_)
        exact ⟨own_pd _ rfl rfl, hC, Below.refl _ _⟩
      · obtain rfl := Option.some.inj ho
        refine gw rfl (g_move _ _ rfl ?_)
        exact ⟨own_pd _ rfl rfl, hC, Below.refl _ _⟩
      · obtain rfl := Option.some.inj ho
        refine gw rfl (g_load_all 24 _ (w.heap.size) (nl (a)) 24 _ rfl (b_a.below hC b_a.lt) Try.underlying24 rfl (sz24 0) ?_)
        exact ⟨own_pd _ rfl rfl, hC, Below.refl _ _⟩
      · obtain rfl := Option.some.inj ho
        have d2 : v 2 = .agg (nl (a)).toArray := hall ⟨2, .data⟩ (by simp) rfl _ rfl
        refine gw rfl (g_call 16 _ _ [.agg (nl (a)).toArray] (kf16 _ _) (by show ([v 2] : List Value) = _; rw [d2]; (try rfl)) ((ref_any a wx w_a).mono ?_))
        rintro e w' ⟨u_, rfl, hp, hb⟩
        exact ⟨_, rfl, own_pd _ rfl hp, hC.trans (hb.mono hC.size), hb⟩
      · obtain rfl := Option.some.inj ho
        refine gw rfl (g_load_all 24 _ (w1.heap.size) (nl (b)) 24 _ rfl (b_b.below hC b_b.lt) Try.underlying24 rfl (sz24 0) ?_)
        exact ⟨own_pd _ rfl rfl, hC, Below.refl _ _⟩
      · obtain rfl := Option.some.inj ho
        have d4 : v 4 = .agg (nl (b)).toArray := hall ⟨4, .data⟩ (by simp) rfl _ rfl
        refine gw rfl (g_call 16 _ _ [.agg (nl (b)).toArray] (kf16 _ _) (by show ([v 4] : List Value) = _; rw [d4]; (try rfl)) ((ref_any b wx w_b).mono ?_))
        rintro e w' ⟨u_, rfl, hp, hb⟩
        exact ⟨_, rfl, own_pd _ rfl hp, hC.trans (hb.mono hC.size), hb⟩
      · obtain rfl := Option.some.inj ho
        have d3 : RN wx (v 3) (a) := hall ⟨3, .data⟩ (by simp) rfl _ rfl
        have d5 : RN wx (v 5) (b) := hall ⟨5, .data⟩ (by simp) rfl _ rfl
        refine gw rfl (g_call 19 _ _ [v 3, v 5] (kf19 _ _) (rfl) ((radd_any _ _ a b (a + b) wx d3 d5 fa fb rfl).mono ?_))
        rintro e w' ⟨u_, rfl, hp, hb⟩
        exact ⟨_, rfl, own_pd _ rfl hp, hC.trans (hb.mono hC.size), hb⟩
      · obtain rfl := Option.some.inj ho
        have d0 : v 0 = .agg (nl (a + b)).toArray := hall ⟨0, .data⟩ (by simp) rfl _ rfl
        have d1 : v 1 = .int .i64 (0) := hall ⟨1, .data⟩ (by simp) rfl _ rfl
        have d6 : RN wx (v 6) (a + b) := hall ⟨6, .data⟩ (by simp) rfl _ rfl
        refine gw rfl (g_call 18 _ _ [.agg (nl (a + b)).toArray, .int .i64 (0), v 6] (kf18 _ _) (by show ([v 0, v 1, v 6] : List Value) = _; rw [d0, d1]; (try rfl)) ((same_ok _ (a + b) wx d6 fs hAd).mono ?_))
        rintro e w' ⟨rfl, hb⟩
        exact ⟨_, rfl, own_pd _ rfl rfl, hC.trans (hb.mono hC.size), hb⟩
      · obtain rfl := Option.some.inj ho
        have d7 : v 7 = .bool true := hall ⟨7, .data⟩ (by simp) rfl _ rfl
        refine gw rfl (g_move _ _ (show v 7 = _ from d7) ?_)
        exact ⟨own_pd _ rfl rfl, hC, Below.refl _ _⟩
      · obtain rfl := Option.some.inj ho
        have dg : v 8 = .bool true := hall ⟨8, .guard⟩ (by simp) rfl _ rfl
        refine gw (by simp [Region.wanted, yielded, dg]) (g_load_all 24 _ (w7.heap.size) (nl (a - b)) 24 _ rfl (b_d.below hC b_d.lt) Try.underlying24 rfl (sz24 0) ?_)
        exact ⟨own_pd _ rfl rfl, hC, Below.refl _ _⟩
      · obtain rfl := Option.some.inj ho
        have dg : v 8 = .bool true := hall ⟨8, .guard⟩ (by simp) rfl _ rfl
        refine gw (by simp [Region.wanted, yielded, dg]) (g_move _ _ rfl ?_)
        exact ⟨own_pd _ rfl rfl, hC, Below.refl _ _⟩
      · obtain rfl := Option.some.inj ho
        have dg : v 8 = .bool true := hall ⟨8, .guard⟩ (by simp) rfl _ rfl
        refine gw (by simp [Region.wanted, yielded, dg]) (g_load_all 24 _ (w.heap.size) (nl (a)) 24 _ rfl (b_a.below hC b_a.lt) Try.underlying24 rfl (sz24 0) ?_)
        exact ⟨own_pd _ rfl rfl, hC, Below.refl _ _⟩
      · obtain rfl := Option.some.inj ho
        have dg : v 8 = .bool true := hall ⟨8, .guard⟩ (by simp) rfl _ rfl
        have d11 : v 11 = .agg (nl (a)).toArray := hall ⟨11, .data⟩ (by simp) rfl _ rfl
        refine gw (by simp [Region.wanted, yielded, dg]) (g_call 16 _ _ [.agg (nl (a)).toArray] (kf16 _ _) (by show ([v 11] : List Value) = _; rw [d11]; (try rfl)) ((ref_any a wx w_a).mono ?_))
        rintro e w' ⟨u_, rfl, hp, hb⟩
        exact ⟨_, rfl, own_pd _ rfl hp, hC.trans (hb.mono hC.size), hb⟩
      · obtain rfl := Option.some.inj ho
        have dg : v 8 = .bool true := hall ⟨8, .guard⟩ (by simp) rfl _ rfl
        refine gw (by simp [Region.wanted, yielded, dg]) (g_load_all 24 _ (w1.heap.size) (nl (b)) 24 _ rfl (b_b.below hC b_b.lt) Try.underlying24 rfl (sz24 0) ?_)
        exact ⟨own_pd _ rfl rfl, hC, Below.refl _ _⟩
      · obtain rfl := Option.some.inj ho
        have dg : v 8 = .bool true := hall ⟨8, .guard⟩ (by simp) rfl _ rfl
        have d13 : v 13 = .agg (nl (b)).toArray := hall ⟨13, .data⟩ (by simp) rfl _ rfl
        refine gw (by simp [Region.wanted, yielded, dg]) (g_call 16 _ _ [.agg (nl (b)).toArray] (kf16 _ _) (by show ([v 13] : List Value) = _; rw [d13]; (try rfl)) ((ref_any b wx w_b).mono ?_))
        rintro e w' ⟨u_, rfl, hp, hb⟩
        exact ⟨_, rfl, own_pd _ rfl hp, hC.trans (hb.mono hC.size), hb⟩
      · obtain rfl := Option.some.inj ho
        have dg : v 8 = .bool true := hall ⟨8, .guard⟩ (by simp) rfl _ rfl
        have d14 : RN wx (v 14) (b) := hall ⟨14, .data⟩ (by simp) rfl _ rfl
        refine gw (by simp [Region.wanted, yielded, dg]) (g_call 20 _ _ [v 14] (kf20 _ _) (rfl) ((less_any _ b wx d14 fb).mono ?_))
        rintro e w' ⟨u_, rfl, hp, hb⟩
        exact ⟨_, rfl, own_pd _ rfl hp, hC.trans (hb.mono hC.size), hb⟩
      · obtain rfl := Option.some.inj ho
        have dg : v 8 = .bool true := hall ⟨8, .guard⟩ (by simp) rfl _ rfl
        have d12 : RN wx (v 12) (a) := hall ⟨12, .data⟩ (by simp) rfl _ rfl
        have d15 : RN wx (v 15) (-b) := hall ⟨15, .data⟩ (by simp) rfl _ rfl
        refine gw (by simp [Region.wanted, yielded, dg]) (g_call 19 _ _ [v 12, v 15] (kf19 _ _) (rfl) ((radd_any _ _ a (-b) (a - b) wx d12 d15 fa fnb hab).mono ?_))
        rintro e w' ⟨u_, rfl, hp, hb⟩
        exact ⟨_, rfl, own_pd _ rfl hp, hC.trans (hb.mono hC.size), hb⟩
      · obtain rfl := Option.some.inj ho
        have dg : v 8 = .bool true := hall ⟨8, .guard⟩ (by simp) rfl _ rfl
        have d9 : v 9 = .agg (nl (a - b)).toArray := hall ⟨9, .data⟩ (by simp) rfl _ rfl
        have d10 : v 10 = .int .i64 (0) := hall ⟨10, .data⟩ (by simp) rfl _ rfl
        have d16 : RN wx (v 16) (a - b) := hall ⟨16, .data⟩ (by simp) rfl _ rfl
        refine gw (by simp [Region.wanted, yielded, dg]) (g_call 18 _ _ [.agg (nl (a - b)).toArray, .int .i64 (0), v 16] (kf18 _ _) (by show ([v 9, v 10, v 16] : List Value) = _; rw [d9, d10]; (try rfl)) ((same_ok _ (a - b) wx d16 fd hSu).mono ?_))
        rintro e w' ⟨rfl, hb⟩
        exact ⟨_, rfl, own_pd _ rfl rfl, hC.trans (hb.mono hC.size), hb⟩
      · obtain rfl := Option.some.inj ho
        have d8 : v 8 = .bool true := hall ⟨8, .data⟩ (by simp) rfl _ rfl
        have d17 : v 17 = .bool true := hall ⟨17, .data⟩ (by simp) rfl _ rfl
        refine gw rfl (g_pickt _ _ _ _ (show v 8 = _ from d8) (show v 17 = _ from d17) ?_)
        exact ⟨own_pd _ rfl rfl, hC, Below.refl _ _⟩
      · obtain rfl := Option.some.inj ho
        have d18 : v 18 = .bool true := hall ⟨18, .data⟩ (by simp) rfl _ rfl
        refine gw rfl (g_move _ _ (show v 18 = _ from d18) ?_)
        exact ⟨own_pd _ rfl rfl, hC, Below.refl _ _⟩
      · obtain rfl := Option.some.inj ho
        have dg : v 19 = .bool true := hall ⟨19, .guard⟩ (by simp) rfl _ rfl
        refine gw (by simp [Region.wanted, yielded, dg]) (g_load_all 24 _ (w.heap.size) (nl (a)) 24 _ rfl (b_a.below hC b_a.lt) Try.underlying24 rfl (sz24 0) ?_)
        exact ⟨own_pd _ rfl rfl, hC, Below.refl _ _⟩
      · obtain rfl := Option.some.inj ho
        have dg : v 19 = .bool true := hall ⟨19, .guard⟩ (by simp) rfl _ rfl
        refine gw (by simp [Region.wanted, yielded, dg]) (g_load_all 24 _ (w1.heap.size) (nl (b)) 24 _ rfl (b_b.below hC b_b.lt) Try.underlying24 rfl (sz24 0) ?_)
        exact ⟨own_pd _ rfl rfl, hC, Below.refl _ _⟩
      · obtain rfl := Option.some.inj ho
        have dg : v 19 = .bool true := hall ⟨19, .guard⟩ (by simp) rfl _ rfl
        have d20 : v 20 = .agg (nl (a)).toArray := hall ⟨20, .data⟩ (by simp) rfl _ rfl
        have d21 : v 21 = .agg (nl (b)).toArray := hall ⟨21, .data⟩ (by simp) rfl _ rfl
        refine gw (by simp [Region.wanted, yielded, dg]) (g_call 21 _ _ [.agg (nl (a)).toArray, .agg (nl (b)).toArray] (kf21 _ _) (by show ([v 20, v 21] : List Value) = _; rw [d20, d21]; (try rfl)) ((cmp_any a b wx R hR).mono ?_))
        rintro e w' ⟨rfl, hb⟩
        exact ⟨_, rfl, own_pd _ rfl rfl, hC.trans (hb.mono hC.size), hb⟩
      · obtain rfl := Option.some.inj ho
        have dg : v 19 = .bool true := hall ⟨19, .guard⟩ (by simp) rfl _ rfl
        refine gw (by simp [Region.wanted, yielded, dg]) (g_load_all 24 _ (w.heap.size) (nl (a)) 24 _ rfl (b_a.below hC b_a.lt) Try.underlying24 rfl (sz24 0) ?_)
        exact ⟨own_pd _ rfl rfl, hC, Below.refl _ _⟩
      · obtain rfl := Option.some.inj ho
        have dg : v 19 = .bool true := hall ⟨19, .guard⟩ (by simp) rfl _ rfl
        have d23 : v 23 = .agg (nl (a)).toArray := hall ⟨23, .data⟩ (by simp) rfl _ rfl
        refine gw (by simp [Region.wanted, yielded, dg]) (g_call 16 _ _ [.agg (nl (a)).toArray] (kf16 _ _) (by show ([v 23] : List Value) = _; rw [d23]; (try rfl)) ((ref_any a wx w_a).mono ?_))
        rintro e w' ⟨u_, rfl, hp, hb⟩
        exact ⟨_, rfl, own_pd _ rfl hp, hC.trans (hb.mono hC.size), hb⟩
      · obtain rfl := Option.some.inj ho
        have dg : v 19 = .bool true := hall ⟨19, .guard⟩ (by simp) rfl _ rfl
        refine gw (by simp [Region.wanted, yielded, dg]) (g_load_all 24 _ (w1.heap.size) (nl (b)) 24 _ rfl (b_b.below hC b_b.lt) Try.underlying24 rfl (sz24 0) ?_)
        exact ⟨own_pd _ rfl rfl, hC, Below.refl _ _⟩
      · obtain rfl := Option.some.inj ho
        have dg : v 19 = .bool true := hall ⟨19, .guard⟩ (by simp) rfl _ rfl
        have d25 : v 25 = .agg (nl (b)).toArray := hall ⟨25, .data⟩ (by simp) rfl _ rfl
        refine gw (by simp [Region.wanted, yielded, dg]) (g_call 16 _ _ [.agg (nl (b)).toArray] (kf16 _ _) (by show ([v 25] : List Value) = _; rw [d25]; (try rfl)) ((ref_any b wx w_b).mono ?_))
        rintro e w' ⟨u_, rfl, hp, hb⟩
        exact ⟨_, rfl, own_pd _ rfl hp, hC.trans (hb.mono hC.size), hb⟩
      · obtain rfl := Option.some.inj ho
        have dg : v 19 = .bool true := hall ⟨19, .guard⟩ (by simp) rfl _ rfl
        have d24 : RN wx (v 24) (a) := hall ⟨24, .data⟩ (by simp) rfl _ rfl
        have d26 : RN wx (v 26) (b) := hall ⟨26, .data⟩ (by simp) rfl _ rfl
        refine gw (by simp [Region.wanted, yielded, dg]) (g_call 22 _ _ [v 24, v 26] (kf22 _ _) (rfl) ((rcmp_any _ _ a b R wx d24 d26 fa fb hR).mono ?_))
        rintro e w' ⟨rfl, hb⟩
        exact ⟨_, rfl, own_pd _ rfl rfl, hC.trans (hb.mono hC.size), hb⟩
      · obtain rfl := Option.some.inj ho
        have dg : v 19 = .bool true := hall ⟨19, .guard⟩ (by simp) rfl _ rfl
        have d22 : v 22 = .int .i64 (R) := hall ⟨22, .data⟩ (by simp) rfl _ rfl
        have d27 : v 27 = .int .i64 (R) := hall ⟨27, .data⟩ (by simp) rfl _ rfl
        refine gw (by simp [Region.wanted, yielded, dg]) (g_ieq 3 _ _ .i64 _ _ true (show v 22 = _ from d22) (show v 27 = _ from d27) (decide_eq_true rfl) ?_)
        exact ⟨own_pd _ rfl rfl, hC, Below.refl _ _⟩
      · obtain rfl := Option.some.inj ho
        have d19 : v 19 = .bool true := hall ⟨19, .data⟩ (by simp) rfl _ rfl
        have d28 : v 28 = .bool true := hall ⟨28, .data⟩ (by simp) rfl _ rfl
        refine gw rfl (g_pickt _ _ _ _ (show v 19 = _ from d19) (show v 28 = _ from d28) ?_)
        exact ⟨own_pd _ rfl rfl, hC, Below.refl _ _⟩
      · obtain rfl := Option.some.inj ho
        have d29 : v 29 = .bool true := hall ⟨29, .data⟩ (by simp) rfl _ rfl
        refine gw rfl (g_assign _ _ (show v 29 = _ from d29) ?_)
        exact ⟨own_pd _ rfl rfl, hC, Below.refl _ _⟩
      · simp at ho
    · simp only [full, Act.put, List.setIfInBounds_toArray, List.set_cons_succ, List.set_cons_zero, Nat.zero_add, Nat.reduceAdd]
      intro v w12 hC hall
      have d0 : v 0 = .agg (nl (a + b)).toArray := hall 0 _ (by decide) rfl
      (try rw [d0])
      clear d0
      have d1 : v 1 = .int .i64 (0) := hall 1 _ (by decide) rfl
      (try rw [d1])
      clear d1
      have d2 : v 2 = .agg (nl (a)).toArray := hall 2 _ (by decide) rfl
      (try rw [d2])
      clear d2
      generalize v 3 = y2_3
      have d4 : v 4 = .agg (nl (b)).toArray := hall 4 _ (by decide) rfl
      (try rw [d4])
      clear d4
      generalize v 5 = y2_5
      generalize v 6 = y2_6
      have d7 : v 7 = .bool true := hall 7 _ (by decide) rfl
      (try rw [d7])
      clear d7
      have d8 : v 8 = .bool true := hall 8 _ (by decide) rfl
      (try rw [d8])
      clear d8
      have d9 : v 9 = .agg (nl (a - b)).toArray := hall 9 _ (by decide) rfl
      (try rw [d9])
      clear d9
      have d10 : v 10 = .int .i64 (0) := hall 10 _ (by decide) rfl
      (try rw [d10])
      clear d10
      have d11 : v 11 = .agg (nl (a)).toArray := hall 11 _ (by decide) rfl
      (try rw [d11])
      clear d11
      generalize v 12 = y2_12
      have d13 : v 13 = .agg (nl (b)).toArray := hall 13 _ (by decide) rfl
      (try rw [d13])
      clear d13
      generalize v 14 = y2_14
      generalize v 15 = y2_15
      generalize v 16 = y2_16
      have d17 : v 17 = .bool true := hall 17 _ (by decide) rfl
      (try rw [d17])
      clear d17
      have d18 : v 18 = .bool true := hall 18 _ (by decide) rfl
      (try rw [d18])
      clear d18
      have d19 : v 19 = .bool true := hall 19 _ (by decide) rfl
      (try rw [d19])
      clear d19
      have d20 : v 20 = .agg (nl (a)).toArray := hall 20 _ (by decide) rfl
      (try rw [d20])
      clear d20
      have d21 : v 21 = .agg (nl (b)).toArray := hall 21 _ (by decide) rfl
      (try rw [d21])
      clear d21
      have d22 : v 22 = .int .i64 (R) := hall 22 _ (by decide) rfl
      (try rw [d22])
      clear d22
      have d23 : v 23 = .agg (nl (a)).toArray := hall 23 _ (by decide) rfl
      (try rw [d23])
      clear d23
      generalize v 24 = y2_24
      have d25 : v 25 = .agg (nl (b)).toArray := hall 25 _ (by decide) rfl
      (try rw [d25])
      clear d25
      generalize v 26 = y2_26
      have d27 : v 27 = .int .i64 (R) := hall 27 _ (by decide) rfl
      (try rw [d27])
      clear d27
      have d28 : v 28 = .bool true := hall 28 _ (by decide) rfl
      (try rw [d28])
      clear d28
      have d29 : v 29 = .bool true := hall 29 _ (by decide) rfl
      (try rw [d29])
      clear d29
      have d30 : v 30 = .bool true := hall 30 _ (by decide) rfl
      (try rw [d30])
      clear d30
      clear hall
      replace b_a := b_a.below hC b_a.lt
      replace b_b := b_b.below hC b_b.lt
      replace b_s := b_s.below hC b_s.lt
      replace b_d := b_d.below hC b_d.lt
      replace hB := hB.trans (hC.mono hB.size)
      clear hC
      go_wp2_with fail
      go_ret
      exact ⟨rfl, hB⟩

set_option maxRecDepth 10000 in
set_option maxHeartbeats 16000000 in
theorem walk010 (a : Int) (b : Int) (w_a : In128 a) (w_b : In128 b) (w : World) (R : Int) (hR : Hid (cmpI a b = R)) (fa : Few a 200) (fb : Few b 200) (fnb : Few (-b) 200) (fs : Few (a + b) 200) (fd : Few (a - b) 200) (hIn : ¬ In64 a) (hAd : In128 (a + b)) (hSu : ¬ In128 (a - b)) :
    Calls Try.prog 3 #[.agg (nl a).toArray, .agg (nl b).toArray] w fun e w' => e = .returned (.bool true) ∧ Below w.heap.size w w' := by
  have hab : Hid (a + -b = a - b) := by show _ = _; omega
  have hfi : Hid (decide (-((2 : Int) ^ 63) ≤ a ∧ a < (2 : Int) ^ 63) = false) := decide_eq_false hIn
  go_enter Try.func3, Try.ntmps3
  go_wp2_with (first
    | ((with_reducible refine at_boxD 2 24 ?_); refine L_box 24 _ (nl (a)) rfl ?_; intro w1 t_ b_a; have l_a : w.heap.size ≤ w.heap.size := Nat.le_refl _; have hB : Below w.heap.size w w1 := t_.below (Below.refl _ _) (Nat.le_refl _); clear t_)
    | ((with_reducible refine at_boxD 3 24 ?_); refine L_box 24 _ (nl (b)) rfl ?_; intro w2 t_ b_b; have l_b : w.heap.size ≤ w1.heap.size := hB.size; have o_b := b_a.lt; replace b_a := t_.blk b_a (by omega); replace hB := t_.below hB l_b; clear t_))
  refine (awake_any w2).mono ?_
  rintro e w3 ⟨rfl, t_⟩
  replace b_a := b_a.below t_ b_a.lt
  replace b_b := b_b.below t_ b_b.lt
  replace hB := hB.trans (t_.mono hB.size)
  clear t_
  go_wp2_with (first
    | ((with_reducible refine at_loadD 14 24 ?_); refine L_load_all 24 _ (w.heap.size) (nl (a)) 24 _ rfl b_a Try.underlying24 rfl (sz24 0) ?_)
    | ((with_reducible refine at_loadD 15 24 ?_); refine L_load_all 24 _ (w1.heap.size) (nl (b)) 24 _ rfl b_b Try.underlying24 rfl (sz24 0) ?_))
  refine (add_ok a b w3 w_a w_b hAd).mono ?_
  rintro e w4 ⟨rfl, t_⟩
  replace b_a := b_a.below t_ b_a.lt
  replace b_b := b_b.below t_ b_b.lt
  replace hB := hB.trans (t_.mono hB.size)
  clear t_
  go_wp2_with (first
    | ((with_reducible refine at_allocD 5 24 ?_); refine L_alloc 24 (nl (0)) zero24 ?_; intro w5 t_ b_s; have l_s : w.heap.size ≤ w4.heap.size := hB.size; have o_s := b_b.lt; replace b_a := t_.blk b_a (by omega); replace b_b := t_.blk b_b (by omega); replace hB := t_.below hB l_s; clear t_)
    | ((with_reducible refine at_storeX 5 24 ?_); refine L_store_all 24 _ _ (w4.heap.size) (nl (a + b)) _ 24 rfl rfl b_s (sz24 0) (rfl) (one_nl _) ?_; have b0_s := b_s; clear b_s; intro w6 t_ b_s; replace b_a := t_.blk b_a (by omega); replace b_b := t_.blk b_b (by omega); replace hB := t_.below hB l_s; clear t_ b0_s)
    | ((with_reducible refine at_loadD 20 24 ?_); refine L_load_all 24 _ (w.heap.size) (nl (a)) 24 _ rfl b_a Try.underlying24 rfl (sz24 0) ?_)
    | ((with_reducible refine at_loadD 21 24 ?_); refine L_load_all 24 _ (w1.heap.size) (nl (b)) 24 _ rfl b_b Try.underlying24 rfl (sz24 0) ?_))
  refine (sub_over a b w6 w_a w_b hSu).mono ?_
  rintro e w7 ⟨rfl, t_⟩
  replace b_a := b_a.below t_ b_a.lt
  replace b_b := b_b.below t_ b_b.lt
  replace b_s := b_s.below t_ b_s.lt
  replace hB := hB.trans (t_.mono hB.size)
  clear t_
  go_wp2_with (first
    | ((with_reducible refine at_allocD 7 24 ?_); refine L_alloc 24 (nl (0)) zero24 ?_; intro w8 t_ b_d; have l_d : w.heap.size ≤ w7.heap.size := hB.size; have o_d := b_s.lt; replace b_a := t_.blk b_a (by omega); replace b_b := t_.blk b_b (by omega); replace b_s := t_.blk b_s (by omega); replace hB := t_.below hB l_d; clear t_)
    | ((with_reducible refine at_storeX 7 24 ?_); refine L_store_all 24 _ _ (w7.heap.size) (nl (0)) _ 24 rfl rfl b_d (sz24 0) (rfl) (one_nl _) ?_; have b0_d := b_d; clear b_d; intro w9 t_ b_d; replace b_a := t_.blk b_a (by omega); replace b_b := t_.blk b_b (by omega); replace b_s := t_.blk b_s (by omega); replace hB := t_.below hB l_d; clear t_ b0_d)
    | ((with_reducible refine at_loadD 26 24 ?_); refine L_load_all 24 _ (w.heap.size) (nl (a)) 24 _ rfl b_a Try.underlying24 rfl (sz24 0) ?_))
  refine (int_over a w9 hIn).mono ?_
  rintro e w10 ⟨rfl, t_⟩
  replace b_a := b_a.below t_ b_a.lt
  replace b_b := b_b.below t_ b_b.lt
  replace b_s := b_s.below t_ b_s.lt
  replace b_d := b_d.below t_ b_d.lt
  replace hB := hB.trans (t_.mono hB.size)
  clear t_
  go_wp2_with (first
    | ((with_reducible refine stop_region 6 ?_); intro X1 hX1))
  refine hX1.out ?_
  clear hX1
  refine wp_region_pred (by kernel_rfl) (by kernel_rfl) [.eq (.agg (nl (a)).toArray), .rn (a), .eq (.bool false), .eq (.int .i64 (6)), .eq (.bool false), .eq (.bool false), .eq (.bool false), .eq (.int .i64 (6)), .eq (.bool false), .eq (.bool false), .eq undef, .eq undef, .eq undef, .eq undef, .eq (.bool false), .eq (.bool false), .eq (.bool false), .eq (.int .i64 (6)), .eq (.bool true), .eq (.bool true), .eq (.int .i64 (0)), .eq (.bool false), .eq (.bool false), .eq (.int .i64 (6)), .eq (.bool false), .eq (.bool false), .eq (.bool false), .eq (.bool false)] (List.replicate 28 none) (fun wx => Below w10.heap.size w10 wx) ?_ ?_ ?_ ?_
  · exact nobs _ _
  · exact (Below.refl _ _).drew
  · simp only [full, Act.put, List.setIfInBounds_toArray, List.set_cons_succ, List.set_cons_zero, Nat.zero_add, Nat.reduceAdd]
    intro i o ho v wx hC hall
    rcases i with _ | _ | _ | _ | _ | _ | _ | _ | _ | _ | _ | _ | _ | _ | _ | _ | _ | _ | _ | _ | _ | _ | _ | _ | _ | _ | _ | _ | i
    · obtain rfl := Option.some.inj ho
      refine gw rfl (g_load_all 24 _ (w.heap.size) (nl (a)) 24 _ rfl (b_a.below hC b_a.lt) Try.underlying24 rfl (sz24 0) ?_)
      exact ⟨own_pd _ rfl rfl, hC, Below.refl _ _⟩
    · obtain rfl := Option.some.inj ho
      have d0 : v 0 = .agg (nl (a)).toArray := hall ⟨0, .data⟩ (by simp) rfl _ rfl
      refine gw rfl (g_call 16 _ _ [.agg (nl (a)).toArray] (kf16 _ _) (by show ([v 0] : List Value) = _; rw [d0]; (try rfl)) ((ref_any a wx w_a).mono ?_))
      rintro e w' ⟨u_, rfl, hp, hb⟩
      exact ⟨_, rfl, own_pd _ rfl hp, hC.trans (hb.mono hC.size), hb⟩
    · obtain rfl := Option.some.inj ho
      have d1 : RN wx (v 1) (a) := hall ⟨1, .data⟩ (by simp) rfl _ rfl
      refine gw rfl (g_call 15 _ _ [v 1, .int .i64 (63)] (kf15 _ _) (rfl) ((fits_any _ a 63 wx false d1 fa hfi).mono ?_))
      rintro e w' ⟨rfl, hb⟩
      exact ⟨_, rfl, own_pd _ rfl rfl, hC.trans (hb.mono hC.size), hb⟩
    · obtain rfl := Option.some.inj ho
      refine gw rfl (g_move _ _ rfl ?_)
      exact ⟨own_pd _ rfl rfl, hC, Below.refl _ _⟩
    · obtain rfl := Option.some.inj ho
      have d3 : v 3 = .int .i64 (6) := hall ⟨3, .data⟩ (by simp) rfl _ rfl
      refine gw rfl (g_ieq 26 _ _ .i64 _ _ false (show v 3 = _ from d3) rfl (by decide) ?_)
      exact ⟨own_pd _ rfl rfl, hC, Below.refl _ _⟩
    · obtain rfl := Option.some.inj ho
      have d2 : v 2 = .bool false := hall ⟨2, .data⟩ (by simp) rfl _ rfl
      have d4 : v 4 = .bool false := hall ⟨4, .data⟩ (by simp) rfl _ rfl
      refine gw rfl (g_bneq _ _ _ _ (show v 2 = _ from d2) (show v 4 = _ from d4) ?_)
      exact ⟨own_pd _ rfl rfl, hC, Below.refl _ _⟩
    · obtain rfl := Option.some.inj ho
      have d5 : v 5 = .bool false := hall ⟨5, .data⟩ (by simp) rfl _ rfl
      refine gw rfl (g_move _ _ (show v 5 = _ from d5) ?_)
      exact ⟨own_pd _ rfl rfl, hC, Below.refl _ _⟩
    · obtain rfl := Option.some.inj ho
      have dg : v 6 = .bool false := hall ⟨6, .guard⟩ (by simp) rfl _ rfl
      refine gw (by simp [Region.wanted, yielded, dg]) (g_move _ _ rfl ?_)
      exact ⟨own_pd _ rfl rfl, hC, Below.refl _ _⟩
    · obtain rfl := Option.some.inj ho
      have dg : v 6 = .bool false := hall ⟨6, .guard⟩ (by simp) rfl _ rfl
      have d7 : v 7 = .int .i64 (6) := hall ⟨7, .data⟩ (by simp) rfl _ rfl
      refine gw (by simp [Region.wanted, yielded, dg]) (g_ieq 26 _ _ .i64 _ _ false (show v 7 = _ from d7) rfl (by decide) ?_)
      exact ⟨own_pd _ rfl rfl, hC, Below.refl _ _⟩
    · obtain rfl := Option.some.inj ho
      have dg : v 6 = .bool false := hall ⟨6, .guard⟩ (by simp) rfl _ rfl
      have d8 : v 8 = .bool false := hall ⟨8, .data⟩ (by simp) rfl _ rfl
      refine gw (by simp [Region.wanted, yielded, dg]) (g_move _ _ (show v 8 = _ from d8) ?_)
      exact ⟨own_pd _ rfl rfl, hC, Below.refl _ _⟩
    · obtain rfl := Option.some.inj ho
      have dg : v 9 = .bool false := hall ⟨9, .guard⟩ (by simp) rfl _ rfl
      refine gn (by simp [Region.wanted, yielded, dg]) ?_
      exact ⟨own_pd _ rfl rfl, hC, Below.refl _ _⟩
    · obtain rfl := Option.some.inj ho
      have dg : v 9 = .bool false := hall ⟨9, .guard⟩ (by simp) rfl _ rfl
      refine gn (by simp [Region.wanted, yielded, dg]) ?_
      exact ⟨own_pd _ rfl rfl, hC, Below.refl _ _⟩
    · obtain rfl := Option.some.inj ho
      have dg : v 9 = .bool false := hall ⟨9, .guard⟩ (by simp) rfl _ rfl
      refine gn (by simp [Region.wanted, yielded, dg]) ?_
      exact ⟨own_pd _ rfl rfl, hC, Below.refl _ _⟩
    · obtain rfl := Option.some.inj ho
      have dg : v 9 = .bool false := hall ⟨9, .guard⟩ (by simp) rfl _ rfl
      refine gn (by simp [Region.wanted, yielded, dg]) ?_
      exact ⟨own_pd _ rfl rfl, hC, Below.refl _ _⟩
    · obtain rfl := Option.some.inj ho
      have dg : v 6 = .bool false := hall ⟨6, .guard⟩ (by simp) rfl _ rfl
      have d9 : v 9 = .bool false := hall ⟨9, .data⟩ (by simp) rfl _ rfl
      refine gw (by simp [Region.wanted, yielded, dg]) (g_pickf _ _ _ _ (show v 9 = _ from d9) rfl ?_)
      exact ⟨own_pd _ rfl rfl, hC, Below.refl _ _⟩
    · obtain rfl := Option.some.inj ho
      have d6 : v 6 = .bool false := hall ⟨6, .data⟩ (by simp) rfl _ rfl
      have d14 : v 14 = .bool false := hall ⟨14, .data⟩ (by simp) rfl _ rfl
      refine gw rfl (g_pickf _ _ _ _ (show v 6 = _ from d6) (show v 14 = _ from d14) ?_)
      exact ⟨own_pd _ rfl rfl, hC, Below.refl _ _⟩
    · obtain rfl := Option.some.inj ho
      have d15 : v 15 = .bool false := hall ⟨15, .data⟩ (by simp) rfl _ rfl
      refine gw rfl (g_move _ _ (show v 15 = _ from d15) ?_)
      exact ⟨own_pd _ rfl rfl, hC, Below.refl _ _⟩
    · obtain rfl := Option.some.inj ho
      have dg : v 16 = .bool false := hall ⟨16, .guard⟩ (by simp) rfl _ rfl
      refine gw (by simp [Region.wanted, yielded, dg]) (g_move _ _ rfl ?_)
      exact ⟨own_pd _ rfl rfl, hC, Below.refl _ _⟩
    · obtain rfl := Option.some.inj ho
      have dg : v 16 = .bool false := hall ⟨16, .guard⟩ (by simp) rfl _ rfl
      have d17 : v 17 = .int .i64 (6) := hall ⟨17, .data⟩ (by simp) rfl _ rfl
      refine gw (by simp [Region.wanted, yielded, dg]) (g_ine 26 _ _ .i64 _ _ true (show v 17 = _ from d17) rfl (by decide) ?_)
      exact ⟨own_pd _ rfl rfl, hC, Below.refl _ _⟩
    · obtain rfl := Option.some.inj ho
      have dg : v 16 = .bool false := hall ⟨16, .guard⟩ (by simp) rfl _ rfl
      have d18 : v 18 = .bool true := hall ⟨18, .data⟩ (by simp) rfl _ rfl
      refine gw (by simp [Region.wanted, yielded, dg]) (g_move _ _ (show v 18 = _ from d18) ?_)
      exact ⟨own_pd _ rfl rfl, hC, Below.refl _ _⟩
    · obtain rfl := Option.some.inj ho
      have dg : v 19 = .bool true := hall ⟨19, .guard⟩ (by simp) rfl _ rfl
      refine gw (by simp [Region.wanted, yielded, dg]) (g_move _ _ rfl ?_)
      exact ⟨own_pd _ rfl rfl, hC, Below.refl _ _⟩
    · obtain rfl := Option.some.inj ho
      have dg : v 19 = .bool true := hall ⟨19, .guard⟩ (by simp) rfl _ rfl
      have d20 : v 20 = .int .i64 (0) := hall ⟨20, .data⟩ (by simp) rfl _ rfl
      refine gw (by simp [Region.wanted, yielded, dg]) (g_ine 2 _ _ .i64 _ _ false (show v 20 = _ from d20) rfl (by decide) ?_)
      exact ⟨own_pd _ rfl rfl, hC, Below.refl _ _⟩
    · obtain rfl := Option.some.inj ho
      have dg : v 19 = .bool true := hall ⟨19, .guard⟩ (by simp) rfl _ rfl
      have d21 : v 21 = .bool false := hall ⟨21, .data⟩ (by simp) rfl _ rfl
      refine gw (by simp [Region.wanted, yielded, dg]) (g_move _ _ (show v 21 = _ from d21) ?_)
      exact ⟨own_pd _ rfl rfl, hC, Below.refl _ _⟩
    · obtain rfl := Option.some.inj ho
      have dg : v 22 = .bool false := hall ⟨22, .guard⟩ (by simp) rfl _ rfl
      refine gw (by simp [Region.wanted, yielded, dg]) (g_move _ _ rfl ?_)
      exact ⟨own_pd _ rfl rfl, hC, Below.refl _ _⟩
    · obtain rfl := Option.some.inj ho
      have dg : v 22 = .bool false := hall ⟨22, .guard⟩ (by simp) rfl _ rfl
      have d23 : v 23 = .int .i64 (6) := hall ⟨23, .data⟩ (by simp) rfl _ rfl
      refine gw (by simp [Region.wanted, yielded, dg]) (g_ine 26 _ _ .i64 _ _ false (show v 23 = _ from d23) rfl (by decide) ?_)
      exact ⟨own_pd _ rfl rfl, hC, Below.refl _ _⟩
    · obtain rfl := Option.some.inj ho
      have dg : v 19 = .bool true := hall ⟨19, .guard⟩ (by simp) rfl _ rfl
      have d22 : v 22 = .bool false := hall ⟨22, .data⟩ (by simp) rfl _ rfl
      have d24 : v 24 = .bool false := hall ⟨24, .data⟩ (by simp) rfl _ rfl
      refine gw (by simp [Region.wanted, yielded, dg]) (g_pickf _ _ _ _ (show v 22 = _ from d22) (show v 24 = _ from d24) ?_)
      exact ⟨own_pd _ rfl rfl, hC, Below.refl _ _⟩
    · obtain rfl := Option.some.inj ho
      have dg : v 16 = .bool false := hall ⟨16, .guard⟩ (by simp) rfl _ rfl
      have d19 : v 19 = .bool true := hall ⟨19, .data⟩ (by simp) rfl _ rfl
      have d25 : v 25 = .bool false := hall ⟨25, .data⟩ (by simp) rfl _ rfl
      refine gw (by simp [Region.wanted, yielded, dg]) (g_pickt _ _ _ _ (show v 19 = _ from d19) (show v 25 = _ from d25) ?_)
      exact ⟨own_pd _ rfl rfl, hC, Below.refl _ _⟩
    · obtain rfl := Option.some.inj ho
      have d16 : v 16 = .bool false := hall ⟨16, .data⟩ (by simp) rfl _ rfl
      have d26 : v 26 = .bool false := hall ⟨26, .data⟩ (by simp) rfl _ rfl
      refine gw rfl (g_pickf _ _ _ _ (show v 16 = _ from d16) (show v 26 = _ from d26) ?_)
      exact ⟨own_pd _ rfl rfl, hC, Below.refl _ _⟩
    · simp at ho
  · simp only [full, Act.put, List.setIfInBounds_toArray, List.set_cons_succ, List.set_cons_zero, Nat.zero_add, Nat.reduceAdd]
    intro v w11 hC hall
    have d0 : v 0 = .agg (nl (a)).toArray := hall 0 _ (by decide) rfl
    (try rw [d0])
    clear d0
    generalize v 1 = y1_1
    have d2 : v 2 = .bool false := hall 2 _ (by decide) rfl
    (try rw [d2])
    clear d2
    have d3 : v 3 = .int .i64 (6) := hall 3 _ (by decide) rfl
    (try rw [d3])
    clear d3
    have d4 : v 4 = .bool false := hall 4 _ (by decide) rfl
    (try rw [d4])
    clear d4
    have d5 : v 5 = .bool false := hall 5 _ (by decide) rfl
    (try rw [d5])
    clear d5
    have d6 : v 6 = .bool false := hall 6 _ (by decide) rfl
    (try rw [d6])
    clear d6
    have d7 : v 7 = .int .i64 (6) := hall 7 _ (by decide) rfl
    (try rw [d7])
    clear d7
    have d8 : v 8 = .bool false := hall 8 _ (by decide) rfl
    (try rw [d8])
    clear d8
    have d9 : v 9 = .bool false := hall 9 _ (by decide) rfl
    (try rw [d9])
    clear d9
    generalize v 10 = y1_10
    generalize v 11 = y1_11
    generalize v 12 = y1_12
    generalize v 13 = y1_13
    have d14 : v 14 = .bool false := hall 14 _ (by decide) rfl
    (try rw [d14])
    clear d14
    have d15 : v 15 = .bool false := hall 15 _ (by decide) rfl
    (try rw [d15])
    clear d15
    have d16 : v 16 = .bool false := hall 16 _ (by decide) rfl
    (try rw [d16])
    clear d16
    have d17 : v 17 = .int .i64 (6) := hall 17 _ (by decide) rfl
    (try rw [d17])
    clear d17
    have d18 : v 18 = .bool true := hall 18 _ (by decide) rfl
    (try rw [d18])
    clear d18
    have d19 : v 19 = .bool true := hall 19 _ (by decide) rfl
    (try rw [d19])
    clear d19
    have d20 : v 20 = .int .i64 (0) := hall 20 _ (by decide) rfl
    (try rw [d20])
    clear d20
    have d21 : v 21 = .bool false := hall 21 _ (by decide) rfl
    (try rw [d21])
    clear d21
    have d22 : v 22 = .bool false := hall 22 _ (by decide) rfl
    (try rw [d22])
    clear d22
    have d23 : v 23 = .int .i64 (6) := hall 23 _ (by decide) rfl
    (try rw [d23])
    clear d23
    have d24 : v 24 = .bool false := hall 24 _ (by decide) rfl
    (try rw [d24])
    clear d24
    have d25 : v 25 = .bool false := hall 25 _ (by decide) rfl
    (try rw [d25])
    clear d25
    have d26 : v 26 = .bool false := hall 26 _ (by decide) rfl
    (try rw [d26])
    clear d26
    have d27 : v 27 = .bool false := hall 27 _ (by decide) rfl
    (try rw [d27])
    clear d27
    clear hall
    replace b_a := b_a.below hC b_a.lt
    replace b_b := b_b.below hC b_b.lt
    replace b_s := b_s.below hC b_s.lt
    replace b_d := b_d.below hC b_d.lt
    replace hB := hB.trans (hC.mono hB.size)
    clear hC
    go_wp2_with (first
      | ((with_reducible refine stop_region 8 ?_); intro X2 hX2))
    refine hX2.out ?_
    clear hX2
    refine wp_region_pred (by kernel_rfl) (by kernel_rfl) [.eq (.agg (nl (a + b)).toArray), .eq (.int .i64 (0)), .eq (.agg (nl (a)).toArray), .rn (a), .eq (.agg (nl (b)).toArray), .rn (b), .rn (a + b), .eq (.bool true), .eq (.bool true), .eq (.agg (nl (0)).toArray), .eq (.int .i64 (6)), .eq (.agg (nl (a)).toArray), .rn (a), .eq (.agg (nl (b)).toArray), .rn (b), .rn (-b), .rn (a - b), .eq (.bool true), .eq (.bool true), .eq (.bool true), .eq (.agg (nl (a)).toArray), .eq (.agg (nl (b)).toArray), .eq (.int .i64 (R)), .eq (.agg (nl (a)).toArray), .rn (a), .eq (.agg (nl (b)).toArray), .rn (b), .eq (.int .i64 (R)), .eq (.bool true), .eq (.bool true), .eq (.bool true)] (List.replicate 31 none) (fun wx => Below w11.heap.size w11 wx) ?_ ?_ ?_ ?_
    · exact nobs _ _
    · exact (Below.refl _ _).drew
    · simp only [full, Act.put, List.setIfInBounds_toArray, List.set_cons_succ, List.set_cons_zero, Nat.zero_add, Nat.reduceAdd]
      intro i o ho v wx hC hall
      rcases i with _ | _ | _ | _ | _ | _ | _ | _ | _ | _ | _ | _ | _ | _ | _ | _ | _ | _ | _ | _ | _ | _ | _ | _ | _ | _ | _ | _ | _ | _ | _ | i
      · obtain rfl := Option.some.inj ho
        refine gw rfl (g_load_all 24 _ (w4.heap.size) (nl (a + b)) 24 _ rfl (b_s.below hC b_s.lt) Try.underlying24 rfl (sz24 0) ?_)
        exact ⟨own_pd _ rfl rfl, hC, Below.refl _ _⟩
      · obtain rfl := Option.some.inj ho
        refine gw rfl (g_move _ _ rfl ?_)
        exact ⟨own_pd _ rfl rfl, hC, Below.refl _ _⟩
      · obtain rfl := Option.some.inj ho
        refine gw rfl (g_load_all 24 _ (w.heap.size) (nl (a)) 24 _ rfl (b_a.below hC b_a.lt) Try.underlying24 rfl (sz24 0) ?_)
        exact ⟨own_pd _ rfl rfl, hC, Below.refl _ _⟩
      · obtain rfl := Option.some.inj ho
        have d2 : v 2 = .agg (nl (a)).toArray := hall ⟨2, .data⟩ (by simp) rfl _ rfl
        refine gw rfl (g_call 16 _ _ [.agg (nl (a)).toArray] (kf16 _ _) (by show ([v 2] : List Value) = _; rw [d2]; (try rfl)) ((ref_any a wx w_a).mono ?_))
        rintro e w' ⟨u_, rfl, hp, hb⟩
        exact ⟨_, rfl, own_pd _ rfl hp, hC.trans (hb.mono hC.size), hb⟩
      · obtain rfl := Option.some.inj ho
        refine gw rfl (g_load_all 24 _ (w1.heap.size) (nl (b)) 24 _ rfl (b_b.below hC b_b.lt) Try.underlying24 rfl (sz24 0) ?_)
        exact ⟨own_pd _ rfl rfl, hC, Below.refl _ _⟩
      · obtain rfl := Option.some.inj ho
        have d4 : v 4 = .agg (nl (b)).toArray := hall ⟨4, .data⟩ (by simp) rfl _ rfl
        refine gw rfl (g_call 16 _ _ [.agg (nl (b)).toArray] (kf16 _ _) (by show ([v 4] : List Value) = _; rw [d4]; (try rfl)) ((ref_any b wx w_b).mono ?_))
        rintro e w' ⟨u_, rfl, hp, hb⟩
        exact ⟨_, rfl, own_pd _ rfl hp, hC.trans (hb.mono hC.size), hb⟩
      · obtain rfl := Option.some.inj ho
        have d3 : RN wx (v 3) (a) := hall ⟨3, .data⟩ (by simp) rfl _ rfl
        have d5 : RN wx (v 5) (b) := hall ⟨5, .data⟩ (by simp) rfl _ rfl
        refine gw rfl (g_call 19 _ _ [v 3, v 5] (kf19 _ _) (rfl) ((radd_any _ _ a b (a + b) wx d3 d5 fa fb rfl).mono ?_))
        rintro e w' ⟨u_, rfl, hp, hb⟩
        exact ⟨_, rfl, own_pd _ rfl hp, hC.trans (hb.mono hC.size), hb⟩
      · obtain rfl := Option.some.inj ho
        have d0 : v 0 = .agg (nl (a + b)).toArray := hall ⟨0, .data⟩ (by simp) rfl _ rfl
        have d1 : v 1 = .int .i64 (0) := hall ⟨1, .data⟩ (by simp) rfl _ rfl
        have d6 : RN wx (v 6) (a + b) := hall ⟨6, .data⟩ (by simp) rfl _ rfl
        refine gw rfl (g_call 18 _ _ [.agg (nl (a + b)).toArray, .int .i64 (0), v 6] (kf18 _ _) (by show ([v 0, v 1, v 6] : List Value) = _; rw [d0, d1]; (try rfl)) ((same_ok _ (a + b) wx d6 fs hAd).mono ?_))
        rintro e w' ⟨rfl, hb⟩
        exact ⟨_, rfl, own_pd _ rfl rfl, hC.trans (hb.mono hC.size), hb⟩
      · obtain rfl := Option.some.inj ho
        have d7 : v 7 = .bool true := hall ⟨7, .data⟩ (by simp) rfl _ rfl
        refine gw rfl (g_move _ _ (show v 7 = _ from d7) ?_)
        exact ⟨own_pd _ rfl rfl, hC, Below.refl _ _⟩
      · obtain rfl := Option.some.inj ho
        have dg : v 8 = .bool true := hall ⟨8, .guard⟩ (by simp) rfl _ rfl
        refine gw (by simp [Region.wanted, yielded, dg]) (g_load_all 24 _ (w7.heap.size) (nl (0)) 24 _ rfl (b_d.below hC b_d.lt) Try.underlying24 rfl (sz24 0) ?_)
        exact ⟨own_pd _ rfl rfl, hC, Below.refl _ _⟩
      · obtain rfl := Option.some.inj ho
        have dg : v 8 = .bool true := hall ⟨8, .guard⟩ (by simp) rfl _ rfl
        refine gw (by simp [Region.wanted, yielded, dg]) (g_move _ _ rfl ?_)
        exact ⟨own_pd _ rfl rfl, hC, Below.refl _ _⟩
      · obtain rfl := Option.some.inj ho
        have dg : v 8 = .bool true := hall ⟨8, .guard⟩ (by simp) rfl _ rfl
        refine gw (by simp [Region.wanted, yielded, dg]) (g_load_all 24 _ (w.heap.size) (nl (a)) 24 _ rfl (b_a.below hC b_a.lt) Try.underlying24 rfl (sz24 0) ?_)
        exact ⟨own_pd _ rfl rfl, hC, Below.refl _ _⟩
      · obtain rfl := Option.some.inj ho
        have dg : v 8 = .bool true := hall ⟨8, .guard⟩ (by simp) rfl _ rfl
        have d11 : v 11 = .agg (nl (a)).toArray := hall ⟨11, .data⟩ (by simp) rfl _ rfl
        refine gw (by simp [Region.wanted, yielded, dg]) (g_call 16 _ _ [.agg (nl (a)).toArray] (kf16 _ _) (by show ([v 11] : List Value) = _; rw [d11]; (try rfl)) ((ref_any a wx w_a).mono ?_))
        rintro e w' ⟨u_, rfl, hp, hb⟩
        exact ⟨_, rfl, own_pd _ rfl hp, hC.trans (hb.mono hC.size), hb⟩
      · obtain rfl := Option.some.inj ho
        have dg : v 8 = .bool true := hall ⟨8, .guard⟩ (by simp) rfl _ rfl
        refine gw (by simp [Region.wanted, yielded, dg]) (g_load_all 24 _ (w1.heap.size) (nl (b)) 24 _ rfl (b_b.below hC b_b.lt) Try.underlying24 rfl (sz24 0) ?_)
        exact ⟨own_pd _ rfl rfl, hC, Below.refl _ _⟩
      · obtain rfl := Option.some.inj ho
        have dg : v 8 = .bool true := hall ⟨8, .guard⟩ (by simp) rfl _ rfl
        have d13 : v 13 = .agg (nl (b)).toArray := hall ⟨13, .data⟩ (by simp) rfl _ rfl
        refine gw (by simp [Region.wanted, yielded, dg]) (g_call 16 _ _ [.agg (nl (b)).toArray] (kf16 _ _) (by show ([v 13] : List Value) = _; rw [d13]; (try rfl)) ((ref_any b wx w_b).mono ?_))
        rintro e w' ⟨u_, rfl, hp, hb⟩
        exact ⟨_, rfl, own_pd _ rfl hp, hC.trans (hb.mono hC.size), hb⟩
      · obtain rfl := Option.some.inj ho
        have dg : v 8 = .bool true := hall ⟨8, .guard⟩ (by simp) rfl _ rfl
        have d14 : RN wx (v 14) (b) := hall ⟨14, .data⟩ (by simp) rfl _ rfl
        refine gw (by simp [Region.wanted, yielded, dg]) (g_call 20 _ _ [v 14] (kf20 _ _) (rfl) ((less_any _ b wx d14 fb).mono ?_))
        rintro e w' ⟨u_, rfl, hp, hb⟩
        exact ⟨_, rfl, own_pd _ rfl hp, hC.trans (hb.mono hC.size), hb⟩
      · obtain rfl := Option.some.inj ho
        have dg : v 8 = .bool true := hall ⟨8, .guard⟩ (by simp) rfl _ rfl
        have d12 : RN wx (v 12) (a) := hall ⟨12, .data⟩ (by simp) rfl _ rfl
        have d15 : RN wx (v 15) (-b) := hall ⟨15, .data⟩ (by simp) rfl _ rfl
        refine gw (by simp [Region.wanted, yielded, dg]) (g_call 19 _ _ [v 12, v 15] (kf19 _ _) (rfl) ((radd_any _ _ a (-b) (a - b) wx d12 d15 fa fnb hab).mono ?_))
        rintro e w' ⟨u_, rfl, hp, hb⟩
        exact ⟨_, rfl, own_pd _ rfl hp, hC.trans (hb.mono hC.size), hb⟩
      · obtain rfl := Option.some.inj ho
        have dg : v 8 = .bool true := hall ⟨8, .guard⟩ (by simp) rfl _ rfl
        have d9 : v 9 = .agg (nl (0)).toArray := hall ⟨9, .data⟩ (by simp) rfl _ rfl
        have d10 : v 10 = .int .i64 (6) := hall ⟨10, .data⟩ (by simp) rfl _ rfl
        have d16 : RN wx (v 16) (a - b) := hall ⟨16, .data⟩ (by simp) rfl _ rfl
        refine gw (by simp [Region.wanted, yielded, dg]) (g_call 18 _ _ [.agg (nl (0)).toArray, .int .i64 (6), v 16] (kf18 _ _) (by show ([v 9, v 10, v 16] : List Value) = _; rw [d9, d10]; (try rfl)) ((same_over _ (a - b) wx d16 fd hSu).mono ?_))
        rintro e w' ⟨rfl, hb⟩
        exact ⟨_, rfl, own_pd _ rfl rfl, hC.trans (hb.mono hC.size), hb⟩
      · obtain rfl := Option.some.inj ho
        have d8 : v 8 = .bool true := hall ⟨8, .data⟩ (by simp) rfl _ rfl
        have d17 : v 17 = .bool true := hall ⟨17, .data⟩ (by simp) rfl _ rfl
        refine gw rfl (g_pickt _ _ _ _ (show v 8 = _ from d8) (show v 17 = _ from d17) ?_)
        exact ⟨own_pd _ rfl rfl, hC, Below.refl _ _⟩
      · obtain rfl := Option.some.inj ho
        have d18 : v 18 = .bool true := hall ⟨18, .data⟩ (by simp) rfl _ rfl
        refine gw rfl (g_move _ _ (show v 18 = _ from d18) ?_)
        exact ⟨own_pd _ rfl rfl, hC, Below.refl _ _⟩
      · obtain rfl := Option.some.inj ho
        have dg : v 19 = .bool true := hall ⟨19, .guard⟩ (by simp) rfl _ rfl
        refine gw (by simp [Region.wanted, yielded, dg]) (g_load_all 24 _ (w.heap.size) (nl (a)) 24 _ rfl (b_a.below hC b_a.lt) Try.underlying24 rfl (sz24 0) ?_)
        exact ⟨own_pd _ rfl rfl, hC, Below.refl _ _⟩
      · obtain rfl := Option.some.inj ho
        have dg : v 19 = .bool true := hall ⟨19, .guard⟩ (by simp) rfl _ rfl
        refine gw (by simp [Region.wanted, yielded, dg]) (g_load_all 24 _ (w1.heap.size) (nl (b)) 24 _ rfl (b_b.below hC b_b.lt) Try.underlying24 rfl (sz24 0) ?_)
        exact ⟨own_pd _ rfl rfl, hC, Below.refl _ _⟩
      · obtain rfl := Option.some.inj ho
        have dg : v 19 = .bool true := hall ⟨19, .guard⟩ (by simp) rfl _ rfl
        have d20 : v 20 = .agg (nl (a)).toArray := hall ⟨20, .data⟩ (by simp) rfl _ rfl
        have d21 : v 21 = .agg (nl (b)).toArray := hall ⟨21, .data⟩ (by simp) rfl _ rfl
        refine gw (by simp [Region.wanted, yielded, dg]) (g_call 21 _ _ [.agg (nl (a)).toArray, .agg (nl (b)).toArray] (kf21 _ _) (by show ([v 20, v 21] : List Value) = _; rw [d20, d21]; (try rfl)) ((cmp_any a b wx R hR).mono ?_))
        rintro e w' ⟨rfl, hb⟩
        exact ⟨_, rfl, own_pd _ rfl rfl, hC.trans (hb.mono hC.size), hb⟩
      · obtain rfl := Option.some.inj ho
        have dg : v 19 = .bool true := hall ⟨19, .guard⟩ (by simp) rfl _ rfl
        refine gw (by simp [Region.wanted, yielded, dg]) (g_load_all 24 _ (w.heap.size) (nl (a)) 24 _ rfl (b_a.below hC b_a.lt) Try.underlying24 rfl (sz24 0) ?_)
        exact ⟨own_pd _ rfl rfl, hC, Below.refl _ _⟩
      · obtain rfl := Option.some.inj ho
        have dg : v 19 = .bool true := hall ⟨19, .guard⟩ (by simp) rfl _ rfl
        have d23 : v 23 = .agg (nl (a)).toArray := hall ⟨23, .data⟩ (by simp) rfl _ rfl
        refine gw (by simp [Region.wanted, yielded, dg]) (g_call 16 _ _ [.agg (nl (a)).toArray] (kf16 _ _) (by show ([v 23] : List Value) = _; rw [d23]; (try rfl)) ((ref_any a wx w_a).mono ?_))
        rintro e w' ⟨u_, rfl, hp, hb⟩
        exact ⟨_, rfl, own_pd _ rfl hp, hC.trans (hb.mono hC.size), hb⟩
      · obtain rfl := Option.some.inj ho
        have dg : v 19 = .bool true := hall ⟨19, .guard⟩ (by simp) rfl _ rfl
        refine gw (by simp [Region.wanted, yielded, dg]) (g_load_all 24 _ (w1.heap.size) (nl (b)) 24 _ rfl (b_b.below hC b_b.lt) Try.underlying24 rfl (sz24 0) ?_)
        exact ⟨own_pd _ rfl rfl, hC, Below.refl _ _⟩
      · obtain rfl := Option.some.inj ho
        have dg : v 19 = .bool true := hall ⟨19, .guard⟩ (by simp) rfl _ rfl
        have d25 : v 25 = .agg (nl (b)).toArray := hall ⟨25, .data⟩ (by simp) rfl _ rfl
        refine gw (by simp [Region.wanted, yielded, dg]) (g_call 16 _ _ [.agg (nl (b)).toArray] (kf16 _ _) (by show ([v 25] : List Value) = _; rw [d25]; (try rfl)) ((ref_any b wx w_b).mono ?_))
        rintro e w' ⟨u_, rfl, hp, hb⟩
        exact ⟨_, rfl, own_pd _ rfl hp, hC.trans (hb.mono hC.size), hb⟩
      · obtain rfl := Option.some.inj ho
        have dg : v 19 = .bool true := hall ⟨19, .guard⟩ (by simp) rfl _ rfl
        have d24 : RN wx (v 24) (a) := hall ⟨24, .data⟩ (by simp) rfl _ rfl
        have d26 : RN wx (v 26) (b) := hall ⟨26, .data⟩ (by simp) rfl _ rfl
        refine gw (by simp [Region.wanted, yielded, dg]) (g_call 22 _ _ [v 24, v 26] (kf22 _ _) (rfl) ((rcmp_any _ _ a b R wx d24 d26 fa fb hR).mono ?_))
        rintro e w' ⟨rfl, hb⟩
        exact ⟨_, rfl, own_pd _ rfl rfl, hC.trans (hb.mono hC.size), hb⟩
      · obtain rfl := Option.some.inj ho
        have dg : v 19 = .bool true := hall ⟨19, .guard⟩ (by simp) rfl _ rfl
        have d22 : v 22 = .int .i64 (R) := hall ⟨22, .data⟩ (by simp) rfl _ rfl
        have d27 : v 27 = .int .i64 (R) := hall ⟨27, .data⟩ (by simp) rfl _ rfl
        refine gw (by simp [Region.wanted, yielded, dg]) (g_ieq 3 _ _ .i64 _ _ true (show v 22 = _ from d22) (show v 27 = _ from d27) (decide_eq_true rfl) ?_)
        exact ⟨own_pd _ rfl rfl, hC, Below.refl _ _⟩
      · obtain rfl := Option.some.inj ho
        have d19 : v 19 = .bool true := hall ⟨19, .data⟩ (by simp) rfl _ rfl
        have d28 : v 28 = .bool true := hall ⟨28, .data⟩ (by simp) rfl _ rfl
        refine gw rfl (g_pickt _ _ _ _ (show v 19 = _ from d19) (show v 28 = _ from d28) ?_)
        exact ⟨own_pd _ rfl rfl, hC, Below.refl _ _⟩
      · obtain rfl := Option.some.inj ho
        have d29 : v 29 = .bool true := hall ⟨29, .data⟩ (by simp) rfl _ rfl
        refine gw rfl (g_assign _ _ (show v 29 = _ from d29) ?_)
        exact ⟨own_pd _ rfl rfl, hC, Below.refl _ _⟩
      · simp at ho
    · simp only [full, Act.put, List.setIfInBounds_toArray, List.set_cons_succ, List.set_cons_zero, Nat.zero_add, Nat.reduceAdd]
      intro v w12 hC hall
      have d0 : v 0 = .agg (nl (a + b)).toArray := hall 0 _ (by decide) rfl
      (try rw [d0])
      clear d0
      have d1 : v 1 = .int .i64 (0) := hall 1 _ (by decide) rfl
      (try rw [d1])
      clear d1
      have d2 : v 2 = .agg (nl (a)).toArray := hall 2 _ (by decide) rfl
      (try rw [d2])
      clear d2
      generalize v 3 = y2_3
      have d4 : v 4 = .agg (nl (b)).toArray := hall 4 _ (by decide) rfl
      (try rw [d4])
      clear d4
      generalize v 5 = y2_5
      generalize v 6 = y2_6
      have d7 : v 7 = .bool true := hall 7 _ (by decide) rfl
      (try rw [d7])
      clear d7
      have d8 : v 8 = .bool true := hall 8 _ (by decide) rfl
      (try rw [d8])
      clear d8
      have d9 : v 9 = .agg (nl (0)).toArray := hall 9 _ (by decide) rfl
      (try rw [d9])
      clear d9
      have d10 : v 10 = .int .i64 (6) := hall 10 _ (by decide) rfl
      (try rw [d10])
      clear d10
      have d11 : v 11 = .agg (nl (a)).toArray := hall 11 _ (by decide) rfl
      (try rw [d11])
      clear d11
      generalize v 12 = y2_12
      have d13 : v 13 = .agg (nl (b)).toArray := hall 13 _ (by decide) rfl
      (try rw [d13])
      clear d13
      generalize v 14 = y2_14
      generalize v 15 = y2_15
      generalize v 16 = y2_16
      have d17 : v 17 = .bool true := hall 17 _ (by decide) rfl
      (try rw [d17])
      clear d17
      have d18 : v 18 = .bool true := hall 18 _ (by decide) rfl
      (try rw [d18])
      clear d18
      have d19 : v 19 = .bool true := hall 19 _ (by decide) rfl
      (try rw [d19])
      clear d19
      have d20 : v 20 = .agg (nl (a)).toArray := hall 20 _ (by decide) rfl
      (try rw [d20])
      clear d20
      have d21 : v 21 = .agg (nl (b)).toArray := hall 21 _ (by decide) rfl
      (try rw [d21])
      clear d21
      have d22 : v 22 = .int .i64 (R) := hall 22 _ (by decide) rfl
      (try rw [d22])
      clear d22
      have d23 : v 23 = .agg (nl (a)).toArray := hall 23 _ (by decide) rfl
      (try rw [d23])
      clear d23
      generalize v 24 = y2_24
      have d25 : v 25 = .agg (nl (b)).toArray := hall 25 _ (by decide) rfl
      (try rw [d25])
      clear d25
      generalize v 26 = y2_26
      have d27 : v 27 = .int .i64 (R) := hall 27 _ (by decide) rfl
      (try rw [d27])
      clear d27
      have d28 : v 28 = .bool true := hall 28 _ (by decide) rfl
      (try rw [d28])
      clear d28
      have d29 : v 29 = .bool true := hall 29 _ (by decide) rfl
      (try rw [d29])
      clear d29
      have d30 : v 30 = .bool true := hall 30 _ (by decide) rfl
      (try rw [d30])
      clear d30
      clear hall
      replace b_a := b_a.below hC b_a.lt
      replace b_b := b_b.below hC b_b.lt
      replace b_s := b_s.below hC b_s.lt
      replace b_d := b_d.below hC b_d.lt
      replace hB := hB.trans (hC.mono hB.size)
      clear hC
      go_wp2_with fail
      go_ret
      exact ⟨rfl, hB⟩

set_option maxRecDepth 10000 in
set_option maxHeartbeats 16000000 in
theorem walk001 (a : Int) (b : Int) (w_a : In128 a) (w_b : In128 b) (w : World) (R : Int) (hR : Hid (cmpI a b = R)) (fa : Few a 200) (fb : Few b 200) (fnb : Few (-b) 200) (fs : Few (a + b) 200) (fd : Few (a - b) 200) (hIn : ¬ In64 a) (hAd : ¬ In128 (a + b)) (hSu : In128 (a - b)) :
    Calls Try.prog 3 #[.agg (nl a).toArray, .agg (nl b).toArray] w fun e w' => e = .returned (.bool true) ∧ Below w.heap.size w w' := by
  have hab : Hid (a + -b = a - b) := by show _ = _; omega
  have hfi : Hid (decide (-((2 : Int) ^ 63) ≤ a ∧ a < (2 : Int) ^ 63) = false) := decide_eq_false hIn
  go_enter Try.func3, Try.ntmps3
  go_wp2_with (first
    | ((with_reducible refine at_boxD 2 24 ?_); refine L_box 24 _ (nl (a)) rfl ?_; intro w1 t_ b_a; have l_a : w.heap.size ≤ w.heap.size := Nat.le_refl _; have hB : Below w.heap.size w w1 := t_.below (Below.refl _ _) (Nat.le_refl _); clear t_)
    | ((with_reducible refine at_boxD 3 24 ?_); refine L_box 24 _ (nl (b)) rfl ?_; intro w2 t_ b_b; have l_b : w.heap.size ≤ w1.heap.size := hB.size; have o_b := b_a.lt; replace b_a := t_.blk b_a (by omega); replace hB := t_.below hB l_b; clear t_))
  refine (awake_any w2).mono ?_
  rintro e w3 ⟨rfl, t_⟩
  replace b_a := b_a.below t_ b_a.lt
  replace b_b := b_b.below t_ b_b.lt
  replace hB := hB.trans (t_.mono hB.size)
  clear t_
  go_wp2_with (first
    | ((with_reducible refine at_loadD 14 24 ?_); refine L_load_all 24 _ (w.heap.size) (nl (a)) 24 _ rfl b_a Try.underlying24 rfl (sz24 0) ?_)
    | ((with_reducible refine at_loadD 15 24 ?_); refine L_load_all 24 _ (w1.heap.size) (nl (b)) 24 _ rfl b_b Try.underlying24 rfl (sz24 0) ?_))
  refine (add_over a b w3 w_a w_b hAd).mono ?_
  rintro e w4 ⟨rfl, t_⟩
  replace b_a := b_a.below t_ b_a.lt
  replace b_b := b_b.below t_ b_b.lt
  replace hB := hB.trans (t_.mono hB.size)
  clear t_
  go_wp2_with (first
    | ((with_reducible refine at_allocD 5 24 ?_); refine L_alloc 24 (nl (0)) zero24 ?_; intro w5 t_ b_s; have l_s : w.heap.size ≤ w4.heap.size := hB.size; have o_s := b_b.lt; replace b_a := t_.blk b_a (by omega); replace b_b := t_.blk b_b (by omega); replace hB := t_.below hB l_s; clear t_)
    | ((with_reducible refine at_storeX 5 24 ?_); refine L_store_all 24 _ _ (w4.heap.size) (nl (0)) _ 24 rfl rfl b_s (sz24 0) (rfl) (one_nl _) ?_; have b0_s := b_s; clear b_s; intro w6 t_ b_s; replace b_a := t_.blk b_a (by omega); replace b_b := t_.blk b_b (by omega); replace hB := t_.below hB l_s; clear t_ b0_s)
    | ((with_reducible refine at_loadD 20 24 ?_); refine L_load_all 24 _ (w.heap.size) (nl (a)) 24 _ rfl b_a Try.underlying24 rfl (sz24 0) ?_)
    | ((with_reducible refine at_loadD 21 24 ?_); refine L_load_all 24 _ (w1.heap.size) (nl (b)) 24 _ rfl b_b Try.underlying24 rfl (sz24 0) ?_))
  refine (sub_ok a b w6 w_a w_b hSu).mono ?_
  rintro e w7 ⟨rfl, t_⟩
  replace b_a := b_a.below t_ b_a.lt
  replace b_b := b_b.below t_ b_b.lt
  replace b_s := b_s.below t_ b_s.lt
  replace hB := hB.trans (t_.mono hB.size)
  clear t_
  go_wp2_with (first
    | ((with_reducible refine at_allocD 7 24 ?_); refine L_alloc 24 (nl (0)) zero24 ?_; intro w8 t_ b_d; have l_d : w.heap.size ≤ w7.heap.size := hB.size; have o_d := b_s.lt; replace b_a := t_.blk b_a (by omega); replace b_b := t_.blk b_b (by omega); replace b_s := t_.blk b_s (by omega); replace hB := t_.below hB l_d; clear t_)
    | ((with_reducible refine at_storeX 7 24 ?_); refine L_store_all 24 _ _ (w7.heap.size) (nl (a - b)) _ 24 rfl rfl b_d (sz24 0) (rfl) (one_nl _) ?_; have b0_d := b_d; clear b_d; intro w9 t_ b_d; replace b_a := t_.blk b_a (by omega); replace b_b := t_.blk b_b (by omega); replace b_s := t_.blk b_s (by omega); replace hB := t_.below hB l_d; clear t_ b0_d)
    | ((with_reducible refine at_loadD 26 24 ?_); refine L_load_all 24 _ (w.heap.size) (nl (a)) 24 _ rfl b_a Try.underlying24 rfl (sz24 0) ?_))
  refine (int_over a w9 hIn).mono ?_
  rintro e w10 ⟨rfl, t_⟩
  replace b_a := b_a.below t_ b_a.lt
  replace b_b := b_b.below t_ b_b.lt
  replace b_s := b_s.below t_ b_s.lt
  replace b_d := b_d.below t_ b_d.lt
  replace hB := hB.trans (t_.mono hB.size)
  clear t_
  go_wp2_with (first
    | ((with_reducible refine stop_region 6 ?_); intro X1 hX1))
  refine hX1.out ?_
  clear hX1
  refine wp_region_pred (by kernel_rfl) (by kernel_rfl) [.eq (.agg (nl (a)).toArray), .rn (a), .eq (.bool false), .eq (.int .i64 (6)), .eq (.bool false), .eq (.bool false), .eq (.bool false), .eq (.int .i64 (6)), .eq (.bool false), .eq (.bool false), .eq undef, .eq undef, .eq undef, .eq undef, .eq (.bool false), .eq (.bool false), .eq (.bool false), .eq (.int .i64 (6)), .eq (.bool true), .eq (.bool true), .eq (.int .i64 (0)), .eq (.bool false), .eq (.bool false), .eq (.int .i64 (6)), .eq (.bool false), .eq (.bool false), .eq (.bool false), .eq (.bool false)] (List.replicate 28 none) (fun wx => Below w10.heap.size w10 wx) ?_ ?_ ?_ ?_
  · exact nobs _ _
  · exact (Below.refl _ _).drew
  · simp only [full, Act.put, List.setIfInBounds_toArray, List.set_cons_succ, List.set_cons_zero, Nat.zero_add, Nat.reduceAdd]
    intro i o ho v wx hC hall
    rcases i with _ | _ | _ | _ | _ | _ | _ | _ | _ | _ | _ | _ | _ | _ | _ | _ | _ | _ | _ | _ | _ | _ | _ | _ | _ | _ | _ | _ | i
    · obtain rfl := Option.some.inj ho
      refine gw rfl (g_load_all 24 _ (w.heap.size) (nl (a)) 24 _ rfl (b_a.below hC b_a.lt) Try.underlying24 rfl (sz24 0) ?_)
      exact ⟨own_pd _ rfl rfl, hC, Below.refl _ _⟩
    · obtain rfl := Option.some.inj ho
      have d0 : v 0 = .agg (nl (a)).toArray := hall ⟨0, .data⟩ (by simp) rfl _ rfl
      refine gw rfl (g_call 16 _ _ [.agg (nl (a)).toArray] (kf16 _ _) (by show ([v 0] : List Value) = _; rw [d0]; (try rfl)) ((ref_any a wx w_a).mono ?_))
      rintro e w' ⟨u_, rfl, hp, hb⟩
      exact ⟨_, rfl, own_pd _ rfl hp, hC.trans (hb.mono hC.size), hb⟩
    · obtain rfl := Option.some.inj ho
      have d1 : RN wx (v 1) (a) := hall ⟨1, .data⟩ (by simp) rfl _ rfl
      refine gw rfl (g_call 15 _ _ [v 1, .int .i64 (63)] (kf15 _ _) (rfl) ((fits_any _ a 63 wx false d1 fa hfi).mono ?_))
      rintro e w' ⟨rfl, hb⟩
      exact ⟨_, rfl, own_pd _ rfl rfl, hC.trans (hb.mono hC.size), hb⟩
    · obtain rfl := Option.some.inj ho
      refine gw rfl (g_move _ _ rfl ?_)
      exact ⟨own_pd _ rfl rfl, hC, Below.refl _ _⟩
    · obtain rfl := Option.some.inj ho
      have d3 : v 3 = .int .i64 (6) := hall ⟨3, .data⟩ (by simp) rfl _ rfl
      refine gw rfl (g_ieq 26 _ _ .i64 _ _ false (show v 3 = _ from d3) rfl (by decide) ?_)
      exact ⟨own_pd _ rfl rfl, hC, Below.refl _ _⟩
    · obtain rfl := Option.some.inj ho
      have d2 : v 2 = .bool false := hall ⟨2, .data⟩ (by simp) rfl _ rfl
      have d4 : v 4 = .bool false := hall ⟨4, .data⟩ (by simp) rfl _ rfl
      refine gw rfl (g_bneq _ _ _ _ (show v 2 = _ from d2) (show v 4 = _ from d4) ?_)
      exact ⟨own_pd _ rfl rfl, hC, Below.refl _ _⟩
    · obtain rfl := Option.some.inj ho
      have d5 : v 5 = .bool false := hall ⟨5, .data⟩ (by simp) rfl _ rfl
      refine gw rfl (g_move _ _ (show v 5 = _ from d5) ?_)
      exact ⟨own_pd _ rfl rfl, hC, Below.refl _ _⟩
    · obtain rfl := Option.some.inj ho
      have dg : v 6 = .bool false := hall ⟨6, .guard⟩ (by simp) rfl _ rfl
      refine gw (by simp [Region.wanted, yielded, dg]) (g_move _ _ rfl ?_)
      exact ⟨own_pd _ rfl rfl, hC, Below.refl _ _⟩
    · obtain rfl := Option.some.inj ho
      have dg : v 6 = .bool false := hall ⟨6, .guard⟩ (by simp) rfl _ rfl
      have d7 : v 7 = .int .i64 (6) := hall ⟨7, .data⟩ (by simp) rfl _ rfl
      refine gw (by simp [Region.wanted, yielded, dg]) (g_ieq 26 _ _ .i64 _ _ false (show v 7 = _ from d7) rfl (by decide) ?_)
      exact ⟨own_pd _ rfl rfl, hC, Below.refl _ _⟩
    · obtain rfl := Option.some.inj ho
      have dg : v 6 = .bool false := hall ⟨6, .guard⟩ (by simp) rfl _ rfl
      have d8 : v 8 = .bool false := hall ⟨8, .data⟩ (by simp) rfl _ rfl
      refine gw (by simp [Region.wanted, yielded, dg]) (g_move _ _ (show v 8 = _ from d8) ?_)
      exact ⟨own_pd _ rfl rfl, hC, Below.refl _ _⟩
    · obtain rfl := Option.some.inj ho
      have dg : v 9 = .bool false := hall ⟨9, .guard⟩ (by simp) rfl _ rfl
      refine gn (by simp [Region.wanted, yielded, dg]) ?_
      exact ⟨own_pd _ rfl rfl, hC, Below.refl _ _⟩
    · obtain rfl := Option.some.inj ho
      have dg : v 9 = .bool false := hall ⟨9, .guard⟩ (by simp) rfl _ rfl
      refine gn (by simp [Region.wanted, yielded, dg]) ?_
      exact ⟨own_pd _ rfl rfl, hC, Below.refl _ _⟩
    · obtain rfl := Option.some.inj ho
      have dg : v 9 = .bool false := hall ⟨9, .guard⟩ (by simp) rfl _ rfl
      refine gn (by simp [Region.wanted, yielded, dg]) ?_
      exact ⟨own_pd _ rfl rfl, hC, Below.refl _ _⟩
    · obtain rfl := Option.some.inj ho
      have dg : v 9 = .bool false := hall ⟨9, .guard⟩ (by simp) rfl _ rfl
      refine gn (by simp [Region.wanted, yielded, dg]) ?_
      exact ⟨own_pd _ rfl rfl, hC, Below.refl _ _⟩
    · obtain rfl := Option.some.inj ho
      have dg : v 6 = .bool false := hall ⟨6, .guard⟩ (by simp) rfl _ rfl
      have d9 : v 9 = .bool false := hall ⟨9, .data⟩ (by simp) rfl _ rfl
      refine gw (by simp [Region.wanted, yielded, dg]) (g_pickf _ _ _ _ (show v 9 = _ from d9) rfl ?_)
      exact ⟨own_pd _ rfl rfl, hC, Below.refl _ _⟩
    · obtain rfl := Option.some.inj ho
      have d6 : v 6 = .bool false := hall ⟨6, .data⟩ (by simp) rfl _ rfl
      have d14 : v 14 = .bool false := hall ⟨14, .data⟩ (by simp) rfl _ rfl
      refine gw rfl (g_pickf _ _ _ _ (show v 6 = _ from d6) (show v 14 = _ from d14) ?_)
      exact ⟨own_pd _ rfl rfl, hC, Below.refl _ _⟩
    · obtain rfl := Option.some.inj ho
      have d15 : v 15 = .bool false := hall ⟨15, .data⟩ (by simp) rfl _ rfl
      refine gw rfl (g_move _ _ (show v 15 = _ from d15) ?_)
      exact ⟨own_pd _ rfl rfl, hC, Below.refl _ _⟩
    · obtain rfl := Option.some.inj ho
      have dg : v 16 = .bool false := hall ⟨16, .guard⟩ (by simp) rfl _ rfl
      refine gw (by simp [Region.wanted, yielded, dg]) (g_move _ _ rfl ?_)
      exact ⟨own_pd _ rfl rfl, hC, Below.refl _ _⟩
    · obtain rfl := Option.some.inj ho
      have dg : v 16 = .bool false := hall ⟨16, .guard⟩ (by simp) rfl _ rfl
      have d17 : v 17 = .int .i64 (6) := hall ⟨17, .data⟩ (by simp) rfl _ rfl
      refine gw (by simp [Region.wanted, yielded, dg]) (g_ine 26 _ _ .i64 _ _ true (show v 17 = _ from d17) rfl (by decide) ?_)
      exact ⟨own_pd _ rfl rfl, hC, Below.refl _ _⟩
    · obtain rfl := Option.some.inj ho
      have dg : v 16 = .bool false := hall ⟨16, .guard⟩ (by simp) rfl _ rfl
      have d18 : v 18 = .bool true := hall ⟨18, .data⟩ (by simp) rfl _ rfl
      refine gw (by simp [Region.wanted, yielded, dg]) (g_move _ _ (show v 18 = _ from d18) ?_)
      exact ⟨own_pd _ rfl rfl, hC, Below.refl _ _⟩
    · obtain rfl := Option.some.inj ho
      have dg : v 19 = .bool true := hall ⟨19, .guard⟩ (by simp) rfl _ rfl
      refine gw (by simp [Region.wanted, yielded, dg]) (g_move _ _ rfl ?_)
      exact ⟨own_pd _ rfl rfl, hC, Below.refl _ _⟩
    · obtain rfl := Option.some.inj ho
      have dg : v 19 = .bool true := hall ⟨19, .guard⟩ (by simp) rfl _ rfl
      have d20 : v 20 = .int .i64 (0) := hall ⟨20, .data⟩ (by simp) rfl _ rfl
      refine gw (by simp [Region.wanted, yielded, dg]) (g_ine 2 _ _ .i64 _ _ false (show v 20 = _ from d20) rfl (by decide) ?_)
      exact ⟨own_pd _ rfl rfl, hC, Below.refl _ _⟩
    · obtain rfl := Option.some.inj ho
      have dg : v 19 = .bool true := hall ⟨19, .guard⟩ (by simp) rfl _ rfl
      have d21 : v 21 = .bool false := hall ⟨21, .data⟩ (by simp) rfl _ rfl
      refine gw (by simp [Region.wanted, yielded, dg]) (g_move _ _ (show v 21 = _ from d21) ?_)
      exact ⟨own_pd _ rfl rfl, hC, Below.refl _ _⟩
    · obtain rfl := Option.some.inj ho
      have dg : v 22 = .bool false := hall ⟨22, .guard⟩ (by simp) rfl _ rfl
      refine gw (by simp [Region.wanted, yielded, dg]) (g_move _ _ rfl ?_)
      exact ⟨own_pd _ rfl rfl, hC, Below.refl _ _⟩
    · obtain rfl := Option.some.inj ho
      have dg : v 22 = .bool false := hall ⟨22, .guard⟩ (by simp) rfl _ rfl
      have d23 : v 23 = .int .i64 (6) := hall ⟨23, .data⟩ (by simp) rfl _ rfl
      refine gw (by simp [Region.wanted, yielded, dg]) (g_ine 26 _ _ .i64 _ _ false (show v 23 = _ from d23) rfl (by decide) ?_)
      exact ⟨own_pd _ rfl rfl, hC, Below.refl _ _⟩
    · obtain rfl := Option.some.inj ho
      have dg : v 19 = .bool true := hall ⟨19, .guard⟩ (by simp) rfl _ rfl
      have d22 : v 22 = .bool false := hall ⟨22, .data⟩ (by simp) rfl _ rfl
      have d24 : v 24 = .bool false := hall ⟨24, .data⟩ (by simp) rfl _ rfl
      refine gw (by simp [Region.wanted, yielded, dg]) (g_pickf _ _ _ _ (show v 22 = _ from d22) (show v 24 = _ from d24) ?_)
      exact ⟨own_pd _ rfl rfl, hC, Below.refl _ _⟩
    · obtain rfl := Option.some.inj ho
      have dg : v 16 = .bool false := hall ⟨16, .guard⟩ (by simp) rfl _ rfl
      have d19 : v 19 = .bool true := hall ⟨19, .data⟩ (by simp) rfl _ rfl
      have d25 : v 25 = .bool false := hall ⟨25, .data⟩ (by simp) rfl _ rfl
      refine gw (by simp [Region.wanted, yielded, dg]) (g_pickt _ _ _ _ (show v 19 = _ from d19) (show v 25 = _ from d25) ?_)
      exact ⟨own_pd _ rfl rfl, hC, Below.refl _ _⟩
    · obtain rfl := Option.some.inj ho
      have d16 : v 16 = .bool false := hall ⟨16, .data⟩ (by simp) rfl _ rfl
      have d26 : v 26 = .bool false := hall ⟨26, .data⟩ (by simp) rfl _ rfl
      refine gw rfl (g_pickf _ _ _ _ (show v 16 = _ from d16) (show v 26 = _ from d26) ?_)
      exact ⟨own_pd _ rfl rfl, hC, Below.refl _ _⟩
    · simp at ho
  · simp only [full, Act.put, List.setIfInBounds_toArray, List.set_cons_succ, List.set_cons_zero, Nat.zero_add, Nat.reduceAdd]
    intro v w11 hC hall
    have d0 : v 0 = .agg (nl (a)).toArray := hall 0 _ (by decide) rfl
    (try rw [d0])
    clear d0
    generalize v 1 = y1_1
    have d2 : v 2 = .bool false := hall 2 _ (by decide) rfl
    (try rw [d2])
    clear d2
    have d3 : v 3 = .int .i64 (6) := hall 3 _ (by decide) rfl
    (try rw [d3])
    clear d3
    have d4 : v 4 = .bool false := hall 4 _ (by decide) rfl
    (try rw [d4])
    clear d4
    have d5 : v 5 = .bool false := hall 5 _ (by decide) rfl
    (try rw [d5])
    clear d5
    have d6 : v 6 = .bool false := hall 6 _ (by decide) rfl
    (try rw [d6])
    clear d6
    have d7 : v 7 = .int .i64 (6) := hall 7 _ (by decide) rfl
    (try rw [d7])
    clear d7
    have d8 : v 8 = .bool false := hall 8 _ (by decide) rfl
    (try rw [d8])
    clear d8
    have d9 : v 9 = .bool false := hall 9 _ (by decide) rfl
    (try rw [d9])
    clear d9
    generalize v 10 = y1_10
    generalize v 11 = y1_11
    generalize v 12 = y1_12
    generalize v 13 = y1_13
    have d14 : v 14 = .bool false := hall 14 _ (by decide) rfl
    (try rw [d14])
    clear d14
    have d15 : v 15 = .bool false := hall 15 _ (by decide) rfl
    (try rw [d15])
    clear d15
    have d16 : v 16 = .bool false := hall 16 _ (by decide) rfl
    (try rw [d16])
    clear d16
    have d17 : v 17 = .int .i64 (6) := hall 17 _ (by decide) rfl
    (try rw [d17])
    clear d17
    have d18 : v 18 = .bool true := hall 18 _ (by decide) rfl
    (try rw [d18])
    clear d18
    have d19 : v 19 = .bool true := hall 19 _ (by decide) rfl
    (try rw [d19])
    clear d19
    have d20 : v 20 = .int .i64 (0) := hall 20 _ (by decide) rfl
    (try rw [d20])
    clear d20
    have d21 : v 21 = .bool false := hall 21 _ (by decide) rfl
    (try rw [d21])
    clear d21
    have d22 : v 22 = .bool false := hall 22 _ (by decide) rfl
    (try rw [d22])
    clear d22
    have d23 : v 23 = .int .i64 (6) := hall 23 _ (by decide) rfl
    (try rw [d23])
    clear d23
    have d24 : v 24 = .bool false := hall 24 _ (by decide) rfl
    (try rw [d24])
    clear d24
    have d25 : v 25 = .bool false := hall 25 _ (by decide) rfl
    (try rw [d25])
    clear d25
    have d26 : v 26 = .bool false := hall 26 _ (by decide) rfl
    (try rw [d26])
    clear d26
    have d27 : v 27 = .bool false := hall 27 _ (by decide) rfl
    (try rw [d27])
    clear d27
    clear hall
    replace b_a := b_a.below hC b_a.lt
    replace b_b := b_b.below hC b_b.lt
    replace b_s := b_s.below hC b_s.lt
    replace b_d := b_d.below hC b_d.lt
    replace hB := hB.trans (hC.mono hB.size)
    clear hC
    go_wp2_with (first
      | ((with_reducible refine stop_region 8 ?_); intro X2 hX2))
    refine hX2.out ?_
    clear hX2
    refine wp_region_pred (by kernel_rfl) (by kernel_rfl) [.eq (.agg (nl (0)).toArray), .eq (.int .i64 (6)), .eq (.agg (nl (a)).toArray), .rn (a), .eq (.agg (nl (b)).toArray), .rn (b), .rn (a + b), .eq (.bool true), .eq (.bool true), .eq (.agg (nl (a - b)).toArray), .eq (.int .i64 (0)), .eq (.agg (nl (a)).toArray), .rn (a), .eq (.agg (nl (b)).toArray), .rn (b), .rn (-b), .rn (a - b), .eq (.bool true), .eq (.bool true), .eq (.bool true), .eq (.agg (nl (a)).toArray), .eq (.agg (nl (b)).toArray), .eq (.int .i64 (R)), .eq (.agg (nl (a)).toArray), .rn (a), .eq (.agg (nl (b)).toArray), .rn (b), .eq (.int .i64 (R)), .eq (.bool true), .eq (.bool true), .eq (.bool true)] (List.replicate 31 none) (fun wx => Below w11.heap.size w11 wx) ?_ ?_ ?_ ?_
    · exact nobs _ _
    · exact (Below.refl _ _).drew
    · simp only [full, Act.put, List.setIfInBounds_toArray, List.set_cons_succ, List.set_cons_zero, Nat.zero_add, Nat.reduceAdd]
      intro i o ho v wx hC hall
      rcases i with _ | _ | _ | _ | _ | _ | _ | _ | _ | _ | _ | _ | _ | _ | _ | _ | _ | _ | _ | _ | _ | _ | _ | _ | _ | _ | _ | _ | _ | _ | _ | i
      · obtain rfl := Option.some.inj ho
        refine gw rfl (g_load_all 24 _ (w4.heap.size) (nl (0)) 24 _ rfl (b_s.below hC b_s.lt) Try.underlying24 rfl (sz24 0) ?_)
        exact ⟨own_pd _ rfl rfl, hC, Below.refl _ _⟩
      · obtain rfl := Option.some.inj ho
        refine gw rfl (g_move _ _ rfl ?_)
        exact ⟨own_pd _ rfl rfl, hC, Below.refl _ _⟩
      · obtain rfl := Option.some.inj ho
        refine gw rfl (g_load_all 24 _ (w.heap.size) (nl (a)) 24 _ rfl (b_a.below hC b_a.lt) Try.underlying24 rfl (sz24 0) ?_)
        exact ⟨own_pd _ rfl rfl, hC, Below.refl _ _⟩
      · obtain rfl := Option.some.inj ho
        have d2 : v 2 = .agg (nl (a)).toArray := hall ⟨2, .data⟩ (by simp) rfl _ rfl
        refine gw rfl (g_call 16 _ _ [.agg (nl (a)).toArray] (kf16 _ _) (by show ([v 2] : List Value) = _; rw [d2]; (try rfl)) ((ref_any a wx w_a).mono ?_))
        rintro e w' ⟨u_, rfl, hp, hb⟩
        exact ⟨_, rfl, own_pd _ rfl hp, hC.trans (hb.mono hC.size), hb⟩
      · obtain rfl := Option.some.inj ho
        refine gw rfl (g_load_all 24 _ (w1.heap.size) (nl (b)) 24 _ rfl (b_b.below hC b_b.lt) Try.underlying24 rfl (sz24 0) ?_)
        exact ⟨own_pd _ rfl rfl, hC, Below.refl _ _⟩
      · obtain rfl := Option.some.inj ho
        have d4 : v 4 = .agg (nl (b)).toArray := hall ⟨4, .data⟩ (by simp) rfl _ rfl
        refine gw rfl (g_call 16 _ _ [.agg (nl (b)).toArray] (kf16 _ _) (by show ([v 4] : List Value) = _; rw [d4]; (try rfl)) ((ref_any b wx w_b).mono ?_))
        rintro e w' ⟨u_, rfl, hp, hb⟩
        exact ⟨_, rfl, own_pd _ rfl hp, hC.trans (hb.mono hC.size), hb⟩
      · obtain rfl := Option.some.inj ho
        have d3 : RN wx (v 3) (a) := hall ⟨3, .data⟩ (by simp) rfl _ rfl
        have d5 : RN wx (v 5) (b) := hall ⟨5, .data⟩ (by simp) rfl _ rfl
        refine gw rfl (g_call 19 _ _ [v 3, v 5] (kf19 _ _) (rfl) ((radd_any _ _ a b (a + b) wx d3 d5 fa fb rfl).mono ?_))
        rintro e w' ⟨u_, rfl, hp, hb⟩
        exact ⟨_, rfl, own_pd _ rfl hp, hC.trans (hb.mono hC.size), hb⟩
      · obtain rfl := Option.some.inj ho
        have d0 : v 0 = .agg (nl (0)).toArray := hall ⟨0, .data⟩ (by simp) rfl _ rfl
        have d1 : v 1 = .int .i64 (6) := hall ⟨1, .data⟩ (by simp) rfl _ rfl
        have d6 : RN wx (v 6) (a + b) := hall ⟨6, .data⟩ (by simp) rfl _ rfl
        refine gw rfl (g_call 18 _ _ [.agg (nl (0)).toArray, .int .i64 (6), v 6] (kf18 _ _) (by show ([v 0, v 1, v 6] : List Value) = _; rw [d0, d1]; (try rfl)) ((same_over _ (a + b) wx d6 fs hAd).mono ?_))
        rintro e w' ⟨rfl, hb⟩
        exact ⟨_, rfl, own_pd _ rfl rfl, hC.trans (hb.mono hC.size), hb⟩
      · obtain rfl := Option.some.inj ho
        have d7 : v 7 = .bool true := hall ⟨7, .data⟩ (by simp) rfl _ rfl
        refine gw rfl (g_move _ _ (show v 7 = _ from d7) ?_)
        exact ⟨own_pd _ rfl rfl, hC, Below.refl _ _⟩
      · obtain rfl := Option.some.inj ho
        have dg : v 8 = .bool true := hall ⟨8, .guard⟩ (by simp) rfl _ rfl
        refine gw (by simp [Region.wanted, yielded, dg]) (g_load_all 24 _ (w7.heap.size) (nl (a - b)) 24 _ rfl (b_d.below hC b_d.lt) Try.underlying24 rfl (sz24 0) ?_)
        exact ⟨own_pd _ rfl rfl, hC, Below.refl _ _⟩
      · obtain rfl := Option.some.inj ho
        have dg : v 8 = .bool true := hall ⟨8, .guard⟩ (by simp) rfl _ rfl
        refine gw (by simp [Region.wanted, yielded, dg]) (g_move _ _ rfl ?_)
        exact ⟨own_pd _ rfl rfl, hC, Below.refl _ _⟩
      · obtain rfl := Option.some.inj ho
        have dg : v 8 = .bool true := hall ⟨8, .guard⟩ (by simp) rfl _ rfl
        refine gw (by simp [Region.wanted, yielded, dg]) (g_load_all 24 _ (w.heap.size) (nl (a)) 24 _ rfl (b_a.below hC b_a.lt) Try.underlying24 rfl (sz24 0) ?_)
        exact ⟨own_pd _ rfl rfl, hC, Below.refl _ _⟩
      · obtain rfl := Option.some.inj ho
        have dg : v 8 = .bool true := hall ⟨8, .guard⟩ (by simp) rfl _ rfl
        have d11 : v 11 = .agg (nl (a)).toArray := hall ⟨11, .data⟩ (by simp) rfl _ rfl
        refine gw (by simp [Region.wanted, yielded, dg]) (g_call 16 _ _ [.agg (nl (a)).toArray] (kf16 _ _) (by show ([v 11] : List Value) = _; rw [d11]; (try rfl)) ((ref_any a wx w_a).mono ?_))
        rintro e w' ⟨u_, rfl, hp, hb⟩
        exact ⟨_, rfl, own_pd _ rfl hp, hC.trans (hb.mono hC.size), hb⟩
      · obtain rfl := Option.some.inj ho
        have dg : v 8 = .bool true := hall ⟨8, .guard⟩ (by simp) rfl _ rfl
        refine gw (by simp [Region.wanted, yielded, dg]) (g_load_all 24 _ (w1.heap.size) (nl (b)) 24 _ rfl (b_b.below hC b_b.lt) Try.underlying24 rfl (sz24 0) ?_)
        exact ⟨own_pd _ rfl rfl, hC, Below.refl _ _⟩
      · obtain rfl := Option.some.inj ho
        have dg : v 8 = .bool true := hall ⟨8, .guard⟩ (by simp) rfl _ rfl
        have d13 : v 13 = .agg (nl (b)).toArray := hall ⟨13, .data⟩ (by simp) rfl _ rfl
        refine gw (by simp [Region.wanted, yielded, dg]) (g_call 16 _ _ [.agg (nl (b)).toArray] (kf16 _ _) (by show ([v 13] : List Value) = _; rw [d13]; (try rfl)) ((ref_any b wx w_b).mono ?_))
        rintro e w' ⟨u_, rfl, hp, hb⟩
        exact ⟨_, rfl, own_pd _ rfl hp, hC.trans (hb.mono hC.size), hb⟩
      · obtain rfl := Option.some.inj ho
        have dg : v 8 = .bool true := hall ⟨8, .guard⟩ (by simp) rfl _ rfl
        have d14 : RN wx (v 14) (b) := hall ⟨14, .data⟩ (by simp) rfl _ rfl
        refine gw (by simp [Region.wanted, yielded, dg]) (g_call 20 _ _ [v 14] (kf20 _ _) (rfl) ((less_any _ b wx d14 fb).mono ?_))
        rintro e w' ⟨u_, rfl, hp, hb⟩
        exact ⟨_, rfl, own_pd _ rfl hp, hC.trans (hb.mono hC.size), hb⟩
      · obtain rfl := Option.some.inj ho
        have dg : v 8 = .bool true := hall ⟨8, .guard⟩ (by simp) rfl _ rfl
        have d12 : RN wx (v 12) (a) := hall ⟨12, .data⟩ (by simp) rfl _ rfl
        have d15 : RN wx (v 15) (-b) := hall ⟨15, .data⟩ (by simp) rfl _ rfl
        refine gw (by simp [Region.wanted, yielded, dg]) (g_call 19 _ _ [v 12, v 15] (kf19 _ _) (rfl) ((radd_any _ _ a (-b) (a - b) wx d12 d15 fa fnb hab).mono ?_))
        rintro e w' ⟨u_, rfl, hp, hb⟩
        exact ⟨_, rfl, own_pd _ rfl hp, hC.trans (hb.mono hC.size), hb⟩
      · obtain rfl := Option.some.inj ho
        have dg : v 8 = .bool true := hall ⟨8, .guard⟩ (by simp) rfl _ rfl
        have d9 : v 9 = .agg (nl (a - b)).toArray := hall ⟨9, .data⟩ (by simp) rfl _ rfl
        have d10 : v 10 = .int .i64 (0) := hall ⟨10, .data⟩ (by simp) rfl _ rfl
        have d16 : RN wx (v 16) (a - b) := hall ⟨16, .data⟩ (by simp) rfl _ rfl
        refine gw (by simp [Region.wanted, yielded, dg]) (g_call 18 _ _ [.agg (nl (a - b)).toArray, .int .i64 (0), v 16] (kf18 _ _) (by show ([v 9, v 10, v 16] : List Value) = _; rw [d9, d10]; (try rfl)) ((same_ok _ (a - b) wx d16 fd hSu).mono ?_))
        rintro e w' ⟨rfl, hb⟩
        exact ⟨_, rfl, own_pd _ rfl rfl, hC.trans (hb.mono hC.size), hb⟩
      · obtain rfl := Option.some.inj ho
        have d8 : v 8 = .bool true := hall ⟨8, .data⟩ (by simp) rfl _ rfl
        have d17 : v 17 = .bool true := hall ⟨17, .data⟩ (by simp) rfl _ rfl
        refine gw rfl (g_pickt _ _ _ _ (show v 8 = _ from d8) (show v 17 = _ from d17) ?_)
        exact ⟨own_pd _ rfl rfl, hC, Below.refl _ _⟩
      · obtain rfl := Option.some.inj ho
        have d18 : v 18 = .bool true := hall ⟨18, .data⟩ (by simp) rfl _ rfl
        refine gw rfl (g_move _ _ (show v 18 = _ from d18) ?_)
        exact ⟨own_pd _ rfl rfl, hC, Below.refl _ _⟩
      · obtain rfl := Option.some.inj ho
        have dg : v 19 = .bool true := hall ⟨19, .guard⟩ (by simp) rfl _ rfl
        refine gw (by simp [Region.wanted, yielded, dg]) (g_load_all 24 _ (w.heap.size) (nl (a)) 24 _ rfl (b_a.below hC b_a.lt) Try.underlying24 rfl (sz24 0) ?_)
        exact ⟨own_pd _ rfl rfl, hC, Below.refl _ _⟩
      · obtain rfl := Option.some.inj ho
        have dg : v 19 = .bool true := hall ⟨19, .guard⟩ (by simp) rfl _ rfl
        refine gw (by simp [Region.wanted, yielded, dg]) (g_load_all 24 _ (w1.heap.size) (nl (b)) 24 _ rfl (b_b.below hC b_b.lt) Try.underlying24 rfl (sz24 0) ?_)
        exact ⟨own_pd _ rfl rfl, hC, Below.refl _ _⟩
      · obtain rfl := Option.some.inj ho
        have dg : v 19 = .bool true := hall ⟨19, .guard⟩ (by simp) rfl _ rfl
        have d20 : v 20 = .agg (nl (a)).toArray := hall ⟨20, .data⟩ (by simp) rfl _ rfl
        have d21 : v 21 = .agg (nl (b)).toArray := hall ⟨21, .data⟩ (by simp) rfl _ rfl
        refine gw (by simp [Region.wanted, yielded, dg]) (g_call 21 _ _ [.agg (nl (a)).toArray, .agg (nl (b)).toArray] (kf21 _ _) (by show ([v 20, v 21] : List Value) = _; rw [d20, d21]; (try rfl)) ((cmp_any a b wx R hR).mono ?_))
        rintro e w' ⟨rfl, hb⟩
        exact ⟨_, rfl, own_pd _ rfl rfl, hC.trans (hb.mono hC.size), hb⟩
      · obtain rfl := Option.some.inj ho
        have dg : v 19 = .bool true := hall ⟨19, .guard⟩ (by simp) rfl _ rfl
        refine gw (by simp [Region.wanted, yielded, dg]) (g_load_all 24 _ (w.heap.size) (nl (a)) 24 _ rfl (b_a.below hC b_a.lt) Try.underlying24 rfl (sz24 0) ?_)
        exact ⟨own_pd _ rfl rfl, hC, Below.refl _ _⟩
      · obtain rfl := Option.some.inj ho
        have dg : v 19 = .bool true := hall ⟨19, .guard⟩ (by simp) rfl _ rfl
        have d23 : v 23 = .agg (nl (a)).toArray := hall ⟨23, .data⟩ (by simp) rfl _ rfl
        refine gw (by simp [Region.wanted, yielded, dg]) (g_call 16 _ _ [.agg (nl (a)).toArray] (kf16 _ _) (by show ([v 23] : List Value) = _; rw [d23]; (try rfl)) ((ref_any a wx w_a).mono ?_))
        rintro e w' ⟨u_, rfl, hp, hb⟩
        exact ⟨_, rfl, own_pd _ rfl hp, hC.trans (hb.mono hC.size), hb⟩
      · obtain rfl := Option.some.inj ho
        have dg : v 19 = .bool true := hall ⟨19, .guard⟩ (by simp) rfl _ rfl
        refine gw (by simp [Region.wanted, yielded, dg]) (g_load_all 24 _ (w1.heap.size) (nl (b)) 24 _ rfl (b_b.below hC b_b.lt) Try.underlying24 rfl (sz24 0) ?_)
        exact ⟨own_pd _ rfl rfl, hC, Below.refl _ _⟩
      · obtain rfl := Option.some.inj ho
        have dg : v 19 = .bool true := hall ⟨19, .guard⟩ (by simp) rfl _ rfl
        have d25 : v 25 = .agg (nl (b)).toArray := hall ⟨25, .data⟩ (by simp) rfl _ rfl
        refine gw (by simp [Region.wanted, yielded, dg]) (g_call 16 _ _ [.agg (nl (b)).toArray] (kf16 _ _) (by show ([v 25] : List Value) = _; rw [d25]; (try rfl)) ((ref_any b wx w_b).mono ?_))
        rintro e w' ⟨u_, rfl, hp, hb⟩
        exact ⟨_, rfl, own_pd _ rfl hp, hC.trans (hb.mono hC.size), hb⟩
      · obtain rfl := Option.some.inj ho
        have dg : v 19 = .bool true := hall ⟨19, .guard⟩ (by simp) rfl _ rfl
        have d24 : RN wx (v 24) (a) := hall ⟨24, .data⟩ (by simp) rfl _ rfl
        have d26 : RN wx (v 26) (b) := hall ⟨26, .data⟩ (by simp) rfl _ rfl
        refine gw (by simp [Region.wanted, yielded, dg]) (g_call 22 _ _ [v 24, v 26] (kf22 _ _) (rfl) ((rcmp_any _ _ a b R wx d24 d26 fa fb hR).mono ?_))
        rintro e w' ⟨rfl, hb⟩
        exact ⟨_, rfl, own_pd _ rfl rfl, hC.trans (hb.mono hC.size), hb⟩
      · obtain rfl := Option.some.inj ho
        have dg : v 19 = .bool true := hall ⟨19, .guard⟩ (by simp) rfl _ rfl
        have d22 : v 22 = .int .i64 (R) := hall ⟨22, .data⟩ (by simp) rfl _ rfl
        have d27 : v 27 = .int .i64 (R) := hall ⟨27, .data⟩ (by simp) rfl _ rfl
        refine gw (by simp [Region.wanted, yielded, dg]) (g_ieq 3 _ _ .i64 _ _ true (show v 22 = _ from d22) (show v 27 = _ from d27) (decide_eq_true rfl) ?_)
        exact ⟨own_pd _ rfl rfl, hC, Below.refl _ _⟩
      · obtain rfl := Option.some.inj ho
        have d19 : v 19 = .bool true := hall ⟨19, .data⟩ (by simp) rfl _ rfl
        have d28 : v 28 = .bool true := hall ⟨28, .data⟩ (by simp) rfl _ rfl
        refine gw rfl (g_pickt _ _ _ _ (show v 19 = _ from d19) (show v 28 = _ from d28) ?_)
        exact ⟨own_pd _ rfl rfl, hC, Below.refl _ _⟩
      · obtain rfl := Option.some.inj ho
        have d29 : v 29 = .bool true := hall ⟨29, .data⟩ (by simp) rfl _ rfl
        refine gw rfl (g_assign _ _ (show v 29 = _ from d29) ?_)
        exact ⟨own_pd _ rfl rfl, hC, Below.refl _ _⟩
      · simp at ho
    · simp only [full, Act.put, List.setIfInBounds_toArray, List.set_cons_succ, List.set_cons_zero, Nat.zero_add, Nat.reduceAdd]
      intro v w12 hC hall
      have d0 : v 0 = .agg (nl (0)).toArray := hall 0 _ (by decide) rfl
      (try rw [d0])
      clear d0
      have d1 : v 1 = .int .i64 (6) := hall 1 _ (by decide) rfl
      (try rw [d1])
      clear d1
      have d2 : v 2 = .agg (nl (a)).toArray := hall 2 _ (by decide) rfl
      (try rw [d2])
      clear d2
      generalize v 3 = y2_3
      have d4 : v 4 = .agg (nl (b)).toArray := hall 4 _ (by decide) rfl
      (try rw [d4])
      clear d4
      generalize v 5 = y2_5
      generalize v 6 = y2_6
      have d7 : v 7 = .bool true := hall 7 _ (by decide) rfl
      (try rw [d7])
      clear d7
      have d8 : v 8 = .bool true := hall 8 _ (by decide) rfl
      (try rw [d8])
      clear d8
      have d9 : v 9 = .agg (nl (a - b)).toArray := hall 9 _ (by decide) rfl
      (try rw [d9])
      clear d9
      have d10 : v 10 = .int .i64 (0) := hall 10 _ (by decide) rfl
      (try rw [d10])
      clear d10
      have d11 : v 11 = .agg (nl (a)).toArray := hall 11 _ (by decide) rfl
      (try rw [d11])
      clear d11
      generalize v 12 = y2_12
      have d13 : v 13 = .agg (nl (b)).toArray := hall 13 _ (by decide) rfl
      (try rw [d13])
      clear d13
      generalize v 14 = y2_14
      generalize v 15 = y2_15
      generalize v 16 = y2_16
      have d17 : v 17 = .bool true := hall 17 _ (by decide) rfl
      (try rw [d17])
      clear d17
      have d18 : v 18 = .bool true := hall 18 _ (by decide) rfl
      (try rw [d18])
      clear d18
      have d19 : v 19 = .bool true := hall 19 _ (by decide) rfl
      (try rw [d19])
      clear d19
      have d20 : v 20 = .agg (nl (a)).toArray := hall 20 _ (by decide) rfl
      (try rw [d20])
      clear d20
      have d21 : v 21 = .agg (nl (b)).toArray := hall 21 _ (by decide) rfl
      (try rw [d21])
      clear d21
      have d22 : v 22 = .int .i64 (R) := hall 22 _ (by decide) rfl
      (try rw [d22])
      clear d22
      have d23 : v 23 = .agg (nl (a)).toArray := hall 23 _ (by decide) rfl
      (try rw [d23])
      clear d23
      generalize v 24 = y2_24
      have d25 : v 25 = .agg (nl (b)).toArray := hall 25 _ (by decide) rfl
      (try rw [d25])
      clear d25
      generalize v 26 = y2_26
      have d27 : v 27 = .int .i64 (R) := hall 27 _ (by decide) rfl
      (try rw [d27])
      clear d27
      have d28 : v 28 = .bool true := hall 28 _ (by decide) rfl
      (try rw [d28])
      clear d28
      have d29 : v 29 = .bool true := hall 29 _ (by decide) rfl
      (try rw [d29])
      clear d29
      have d30 : v 30 = .bool true := hall 30 _ (by decide) rfl
      (try rw [d30])
      clear d30
      clear hall
      replace b_a := b_a.below hC b_a.lt
      replace b_b := b_b.below hC b_b.lt
      replace b_s := b_s.below hC b_s.lt
      replace b_d := b_d.below hC b_d.lt
      replace hB := hB.trans (hC.mono hB.size)
      clear hC
      go_wp2_with fail
      go_ret
      exact ⟨rfl, hB⟩

set_option maxRecDepth 10000 in
set_option maxHeartbeats 16000000 in
theorem walk000 (a : Int) (b : Int) (w_a : In128 a) (w_b : In128 b) (w : World) (R : Int) (hR : Hid (cmpI a b = R)) (fa : Few a 200) (fb : Few b 200) (fnb : Few (-b) 200) (fs : Few (a + b) 200) (fd : Few (a - b) 200) (hIn : ¬ In64 a) (hAd : ¬ In128 (a + b)) (hSu : ¬ In128 (a - b)) :
    Calls Try.prog 3 #[.agg (nl a).toArray, .agg (nl b).toArray] w fun e w' => e = .returned (.bool true) ∧ Below w.heap.size w w' := by
  have hab : Hid (a + -b = a - b) := by show _ = _; omega
  have hfi : Hid (decide (-((2 : Int) ^ 63) ≤ a ∧ a < (2 : Int) ^ 63) = false) := decide_eq_false hIn
  go_enter Try.func3, Try.ntmps3
  go_wp2_with (first
    | ((with_reducible refine at_boxD 2 24 ?_); refine L_box 24 _ (nl (a)) rfl ?_; intro w1 t_ b_a; have l_a : w.heap.size ≤ w.heap.size := Nat.le_refl _; have hB : Below w.heap.size w w1 := t_.below (Below.refl _ _) (Nat.le_refl _); clear t_)
    | ((with_reducible refine at_boxD 3 24 ?_); refine L_box 24 _ (nl (b)) rfl ?_; intro w2 t_ b_b; have l_b : w.heap.size ≤ w1.heap.size := hB.size; have o_b := b_a.lt; replace b_a := t_.blk b_a (by omega); replace hB := t_.below hB l_b; clear t_))
  refine (awake_any w2).mono ?_
  rintro e w3 ⟨rfl, t_⟩
  replace b_a := b_a.below t_ b_a.lt
  replace b_b := b_b.below t_ b_b.lt
  replace hB := hB.trans (t_.mono hB.size)
  clear t_
  go_wp2_with (first
    | ((with_reducible refine at_loadD 14 24 ?_); refine L_load_all 24 _ (w.heap.size) (nl (a)) 24 _ rfl b_a Try.underlying24 rfl (sz24 0) ?_)
    | ((with_reducible refine at_loadD 15 24 ?_); refine L_load_all 24 _ (w1.heap.size) (nl (b)) 24 _ rfl b_b Try.underlying24 rfl (sz24 0) ?_))
  refine (add_over a b w3 w_a w_b hAd).mono ?_
  rintro e w4 ⟨rfl, t_⟩
  replace b_a := b_a.below t_ b_a.lt
  replace b_b := b_b.below t_ b_b.lt
  replace hB := hB.trans (t_.mono hB.size)
  clear t_
  go_wp2_with (first
    | ((with_reducible refine at_allocD 5 24 ?_); refine L_alloc 24 (nl (0)) zero24 ?_; intro w5 t_ b_s; have l_s : w.heap.size ≤ w4.heap.size := hB.size; have o_s := b_b.lt; replace b_a := t_.blk b_a (by omega); replace b_b := t_.blk b_b (by omega); replace hB := t_.below hB l_s; clear t_)
    | ((with_reducible refine at_storeX 5 24 ?_); refine L_store_all 24 _ _ (w4.heap.size) (nl (0)) _ 24 rfl rfl b_s (sz24 0) (rfl) (one_nl _) ?_; have b0_s := b_s; clear b_s; intro w6 t_ b_s; replace b_a := t_.blk b_a (by omega); replace b_b := t_.blk b_b (by omega); replace hB := t_.below hB l_s; clear t_ b0_s)
    | ((with_reducible refine at_loadD 20 24 ?_); refine L_load_all 24 _ (w.heap.size) (nl (a)) 24 _ rfl b_a Try.underlying24 rfl (sz24 0) ?_)
    | ((with_reducible refine at_loadD 21 24 ?_); refine L_load_all 24 _ (w1.heap.size) (nl (b)) 24 _ rfl b_b Try.underlying24 rfl (sz24 0) ?_))
  refine (sub_over a b w6 w_a w_b hSu).mono ?_
  rintro e w7 ⟨rfl, t_⟩
  replace b_a := b_a.below t_ b_a.lt
  replace b_b := b_b.below t_ b_b.lt
  replace b_s := b_s.below t_ b_s.lt
  replace hB := hB.trans (t_.mono hB.size)
  clear t_
  go_wp2_with (first
    | ((with_reducible refine at_allocD 7 24 ?_); refine L_alloc 24 (nl (0)) zero24 ?_; intro w8 t_ b_d; have l_d : w.heap.size ≤ w7.heap.size := hB.size; have o_d := b_s.lt; replace b_a := t_.blk b_a (by omega); replace b_b := t_.blk b_b (by omega); replace b_s := t_.blk b_s (by omega); replace hB := t_.below hB l_d; clear t_)
    | ((with_reducible refine at_storeX 7 24 ?_); refine L_store_all 24 _ _ (w7.heap.size) (nl (0)) _ 24 rfl rfl b_d (sz24 0) (rfl) (one_nl _) ?_; have b0_d := b_d; clear b_d; intro w9 t_ b_d; replace b_a := t_.blk b_a (by omega); replace b_b := t_.blk b_b (by omega); replace b_s := t_.blk b_s (by omega); replace hB := t_.below hB l_d; clear t_ b0_d)
    | ((with_reducible refine at_loadD 26 24 ?_); refine L_load_all 24 _ (w.heap.size) (nl (a)) 24 _ rfl b_a Try.underlying24 rfl (sz24 0) ?_))
  refine (int_over a w9 hIn).mono ?_
  rintro e w10 ⟨rfl, t_⟩
  replace b_a := b_a.below t_ b_a.lt
  replace b_b := b_b.below t_ b_b.lt
  replace b_s := b_s.below t_ b_s.lt
  replace b_d := b_d.below t_ b_d.lt
  replace hB := hB.trans (t_.mono hB.size)
  clear t_
  go_wp2_with (first
    | ((with_reducible refine stop_region 6 ?_); intro X1 hX1))
  refine hX1.out ?_
  clear hX1
  refine wp_region_pred (by kernel_rfl) (by kernel_rfl) [.eq (.agg (nl (a)).toArray), .rn (a), .eq (.bool false), .eq (.int .i64 (6)), .eq (.bool false), .eq (.bool false), .eq (.bool false), .eq (.int .i64 (6)), .eq (.bool false), .eq (.bool false), .eq undef, .eq undef, .eq undef, .eq undef, .eq (.bool false), .eq (.bool false), .eq (.bool false), .eq (.int .i64 (6)), .eq (.bool true), .eq (.bool true), .eq (.int .i64 (0)), .eq (.bool false), .eq (.bool false), .eq (.int .i64 (6)), .eq (.bool false), .eq (.bool false), .eq (.bool false), .eq (.bool false)] (List.replicate 28 none) (fun wx => Below w10.heap.size w10 wx) ?_ ?_ ?_ ?_
  · exact nobs _ _
  · exact (Below.refl _ _).drew
  · simp only [full, Act.put, List.setIfInBounds_toArray, List.set_cons_succ, List.set_cons_zero, Nat.zero_add, Nat.reduceAdd]
    intro i o ho v wx hC hall
    rcases i with _ | _ | _ | _ | _ | _ | _ | _ | _ | _ | _ | _ | _ | _ | _ | _ | _ | _ | _ | _ | _ | _ | _ | _ | _ | _ | _ | _ | i
    · obtain rfl := Option.some.inj ho
      refine gw rfl (g_load_all 24 _ (w.heap.size) (nl (a)) 24 _ rfl (b_a.below hC b_a.lt) Try.underlying24 rfl (sz24 0) ?_)
      exact ⟨own_pd _ rfl rfl, hC, Below.refl _ _⟩
    · obtain rfl := Option.some.inj ho
      have d0 : v 0 = .agg (nl (a)).toArray := hall ⟨0, .data⟩ (by simp) rfl _ rfl
      refine gw rfl (g_call 16 _ _ [.agg (nl (a)).toArray] (kf16 _ _) (by show ([v 0] : List Value) = _; rw [d0]; (try rfl)) ((ref_any a wx w_a).mono ?_))
      rintro e w' ⟨u_, rfl, hp, hb⟩
      exact ⟨_, rfl, own_pd _ rfl hp, hC.trans (hb.mono hC.size), hb⟩
    · obtain rfl := Option.some.inj ho
      have d1 : RN wx (v 1) (a) := hall ⟨1, .data⟩ (by simp) rfl _ rfl
      refine gw rfl (g_call 15 _ _ [v 1, .int .i64 (63)] (kf15 _ _) (rfl) ((fits_any _ a 63 wx false d1 fa hfi).mono ?_))
      rintro e w' ⟨rfl, hb⟩
      exact ⟨_, rfl, own_pd _ rfl rfl, hC.trans (hb.mono hC.size), hb⟩
    · obtain rfl := Option.some.inj ho
      refine gw rfl (g_move _ _ rfl ?_)
      exact ⟨own_pd _ rfl rfl, hC, Below.refl _ _⟩
    · obtain rfl := Option.some.inj ho
      have d3 : v 3 = .int .i64 (6) := hall ⟨3, .data⟩ (by simp) rfl _ rfl
      refine gw rfl (g_ieq 26 _ _ .i64 _ _ false (show v 3 = _ from d3) rfl (by decide) ?_)
      exact ⟨own_pd _ rfl rfl, hC, Below.refl _ _⟩
    · obtain rfl := Option.some.inj ho
      have d2 : v 2 = .bool false := hall ⟨2, .data⟩ (by simp) rfl _ rfl
      have d4 : v 4 = .bool false := hall ⟨4, .data⟩ (by simp) rfl _ rfl
      refine gw rfl (g_bneq _ _ _ _ (show v 2 = _ from d2) (show v 4 = _ from d4) ?_)
      exact ⟨own_pd _ rfl rfl, hC, Below.refl _ _⟩
    · obtain rfl := Option.some.inj ho
      have d5 : v 5 = .bool false := hall ⟨5, .data⟩ (by simp) rfl _ rfl
      refine gw rfl (g_move _ _ (show v 5 = _ from d5) ?_)
      exact ⟨own_pd _ rfl rfl, hC, Below.refl _ _⟩
    · obtain rfl := Option.some.inj ho
      have dg : v 6 = .bool false := hall ⟨6, .guard⟩ (by simp) rfl _ rfl
      refine gw (by simp [Region.wanted, yielded, dg]) (g_move _ _ rfl ?_)
      exact ⟨own_pd _ rfl rfl, hC, Below.refl _ _⟩
    · obtain rfl := Option.some.inj ho
      have dg : v 6 = .bool false := hall ⟨6, .guard⟩ (by simp) rfl _ rfl
      have d7 : v 7 = .int .i64 (6) := hall ⟨7, .data⟩ (by simp) rfl _ rfl
      refine gw (by simp [Region.wanted, yielded, dg]) (g_ieq 26 _ _ .i64 _ _ false (show v 7 = _ from d7) rfl (by decide) ?_)
      exact ⟨own_pd _ rfl rfl, hC, Below.refl _ _⟩
    · obtain rfl := Option.some.inj ho
      have dg : v 6 = .bool false := hall ⟨6, .guard⟩ (by simp) rfl _ rfl
      have d8 : v 8 = .bool false := hall ⟨8, .data⟩ (by simp) rfl _ rfl
      refine gw (by simp [Region.wanted, yielded, dg]) (g_move _ _ (show v 8 = _ from d8) ?_)
      exact ⟨own_pd _ rfl rfl, hC, Below.refl _ _⟩
    · obtain rfl := Option.some.inj ho
      have dg : v 9 = .bool false := hall ⟨9, .guard⟩ (by simp) rfl _ rfl
      refine gn (by simp [Region.wanted, yielded, dg]) ?_
      exact ⟨own_pd _ rfl rfl, hC, Below.refl _ _⟩
    · obtain rfl := Option.some.inj ho
      have dg : v 9 = .bool false := hall ⟨9, .guard⟩ (by simp) rfl _ rfl
      refine gn (by simp [Region.wanted, yielded, dg]) ?_
      exact ⟨own_pd _ rfl rfl, hC, Below.refl _ _⟩
    · obtain rfl := Option.some.inj ho
      have dg : v 9 = .bool false := hall ⟨9, .guard⟩ (by simp) rfl _ rfl
      refine gn (by simp [Region.wanted, yielded, dg]) ?_
      exact ⟨own_pd _ rfl rfl, hC, Below.refl _ _⟩
    · obtain rfl := Option.some.inj ho
      have dg : v 9 = .bool false := hall ⟨9, .guard⟩ (by simp) rfl _ rfl
      refine gn (by simp [Region.wanted, yielded, dg]) ?_
      exact ⟨own_pd _ rfl rfl, hC, Below.refl _ _⟩
    · obtain rfl := Option.some.inj ho
      have dg : v 6 = .bool false := hall ⟨6, .guard⟩ (by simp) rfl _ rfl
      have d9 : v 9 = .bool false := hall ⟨9, .data⟩ (by simp) rfl _ rfl
      refine gw (by simp [Region.wanted, yielded, dg]) (g_pickf _ _ _ _ (show v 9 = _ from d9) rfl ?_)
      exact ⟨own_pd _ rfl rfl, hC, Below.refl _ _⟩
    · obtain rfl := Option.some.inj ho
      have d6 : v 6 = .bool false := hall ⟨6, .data⟩ (by simp) rfl _ rfl
      have d14 : v 14 = .bool false := hall ⟨14, .data⟩ (by simp) rfl _ rfl
      refine gw rfl (g_pickf _ _ _ _ (show v 6 = _ from d6) (show v 14 = _ from d14) ?_)
      exact ⟨own_pd _ rfl rfl, hC, Below.refl _ _⟩
    · obtain rfl := Option.some.inj ho
      have d15 : v 15 = .bool false := hall ⟨15, .data⟩ (by simp) rfl _ rfl
      refine gw rfl (g_move _ _ (show v 15 = _ from d15) ?_)
      exact ⟨own_pd _ rfl rfl, hC, Below.refl _ _⟩
    · obtain rfl := Option.some.inj ho
      have dg : v 16 = .bool false := hall ⟨16, .guard⟩ (by simp) rfl _ rfl
      refine gw (by simp [Region.wanted, yielded, dg]) (g_move _ _ rfl ?_)
      exact ⟨own_pd _ rfl rfl, hC, Below.refl _ _⟩
    · obtain rfl := Option.some.inj ho
      have dg : v 16 = .bool false := hall ⟨16, .guard⟩ (by simp) rfl _ rfl
      have d17 : v 17 = .int .i64 (6) := hall ⟨17, .data⟩ (by simp) rfl _ rfl
      refine gw (by simp [Region.wanted, yielded, dg]) (g_ine 26 _ _ .i64 _ _ true (show v 17 = _ from d17) rfl (by decide) ?_)
      exact ⟨own_pd _ rfl rfl, hC, Below.refl _ _⟩
    · obtain rfl := Option.some.inj ho
      have dg : v 16 = .bool false := hall ⟨16, .guard⟩ (by simp) rfl _ rfl
      have d18 : v 18 = .bool true := hall ⟨18, .data⟩ (by simp) rfl _ rfl
      refine gw (by simp [Region.wanted, yielded, dg]) (g_move _ _ (show v 18 = _ from d18) ?_)
      exact ⟨own_pd _ rfl rfl, hC, Below.refl _ _⟩
    · obtain rfl := Option.some.inj ho
      have dg : v 19 = .bool true := hall ⟨19, .guard⟩ (by simp) rfl _ rfl
      refine gw (by simp [Region.wanted, yielded, dg]) (g_move _ _ rfl ?_)
      exact ⟨own_pd _ rfl rfl, hC, Below.refl _ _⟩
    · obtain rfl := Option.some.inj ho
      have dg : v 19 = .bool true := hall ⟨19, .guard⟩ (by simp) rfl _ rfl
      have d20 : v 20 = .int .i64 (0) := hall ⟨20, .data⟩ (by simp) rfl _ rfl
      refine gw (by simp [Region.wanted, yielded, dg]) (g_ine 2 _ _ .i64 _ _ false (show v 20 = _ from d20) rfl (by decide) ?_)
      exact ⟨own_pd _ rfl rfl, hC, Below.refl _ _⟩
    · obtain rfl := Option.some.inj ho
      have dg : v 19 = .bool true := hall ⟨19, .guard⟩ (by simp) rfl _ rfl
      have d21 : v 21 = .bool false := hall ⟨21, .data⟩ (by simp) rfl _ rfl
      refine gw (by simp [Region.wanted, yielded, dg]) (g_move _ _ (show v 21 = _ from d21) ?_)
      exact ⟨own_pd _ rfl rfl, hC, Below.refl _ _⟩
    · obtain rfl := Option.some.inj ho
      have dg : v 22 = .bool false := hall ⟨22, .guard⟩ (by simp) rfl _ rfl
      refine gw (by simp [Region.wanted, yielded, dg]) (g_move _ _ rfl ?_)
      exact ⟨own_pd _ rfl rfl, hC, Below.refl _ _⟩
    · obtain rfl := Option.some.inj ho
      have dg : v 22 = .bool false := hall ⟨22, .guard⟩ (by simp) rfl _ rfl
      have d23 : v 23 = .int .i64 (6) := hall ⟨23, .data⟩ (by simp) rfl _ rfl
      refine gw (by simp [Region.wanted, yielded, dg]) (g_ine 26 _ _ .i64 _ _ false (show v 23 = _ from d23) rfl (by decide) ?_)
      exact ⟨own_pd _ rfl rfl, hC, Below.refl _ _⟩
    · obtain rfl := Option.some.inj ho
      have dg : v 19 = .bool true := hall ⟨19, .guard⟩ (by simp) rfl _ rfl
      have d22 : v 22 = .bool false := hall ⟨22, .data⟩ (by simp) rfl _ rfl
      have d24 : v 24 = .bool false := hall ⟨24, .data⟩ (by simp) rfl _ rfl
      refine gw (by simp [Region.wanted, yielded, dg]) (g_pickf _ _ _ _ (show v 22 = _ from d22) (show v 24 = _ from d24) ?_)
      exact ⟨own_pd _ rfl rfl, hC, Below.refl _ _⟩
    · obtain rfl := Option.some.inj ho
      have dg : v 16 = .bool false := hall ⟨16, .guard⟩ (by simp) rfl _ rfl
      have d19 : v 19 = .bool true := hall ⟨19, .data⟩ (by simp) rfl _ rfl
      have d25 : v 25 = .bool false := hall ⟨25, .data⟩ (by simp) rfl _ rfl
      refine gw (by simp [Region.wanted, yielded, dg]) (g_pickt _ _ _ _ (show v 19 = _ from d19) (show v 25 = _ from d25) ?_)
      exact ⟨own_pd _ rfl rfl, hC, Below.refl _ _⟩
    · obtain rfl := Option.some.inj ho
      have d16 : v 16 = .bool false := hall ⟨16, .data⟩ (by simp) rfl _ rfl
      have d26 : v 26 = .bool false := hall ⟨26, .data⟩ (by simp) rfl _ rfl
      refine gw rfl (g_pickf _ _ _ _ (show v 16 = _ from d16) (show v 26 = _ from d26) ?_)
      exact ⟨own_pd _ rfl rfl, hC, Below.refl _ _⟩
    · simp at ho
  · simp only [full, Act.put, List.setIfInBounds_toArray, List.set_cons_succ, List.set_cons_zero, Nat.zero_add, Nat.reduceAdd]
    intro v w11 hC hall
    have d0 : v 0 = .agg (nl (a)).toArray := hall 0 _ (by decide) rfl
    (try rw [d0])
    clear d0
    generalize v 1 = y1_1
    have d2 : v 2 = .bool false := hall 2 _ (by decide) rfl
    (try rw [d2])
    clear d2
    have d3 : v 3 = .int .i64 (6) := hall 3 _ (by decide) rfl
    (try rw [d3])
    clear d3
    have d4 : v 4 = .bool false := hall 4 _ (by decide) rfl
    (try rw [d4])
    clear d4
    have d5 : v 5 = .bool false := hall 5 _ (by decide) rfl
    (try rw [d5])
    clear d5
    have d6 : v 6 = .bool false := hall 6 _ (by decide) rfl
    (try rw [d6])
    clear d6
    have d7 : v 7 = .int .i64 (6) := hall 7 _ (by decide) rfl
    (try rw [d7])
    clear d7
    have d8 : v 8 = .bool false := hall 8 _ (by decide) rfl
    (try rw [d8])
    clear d8
    have d9 : v 9 = .bool false := hall 9 _ (by decide) rfl
    (try rw [d9])
    clear d9
    generalize v 10 = y1_10
    generalize v 11 = y1_11
    generalize v 12 = y1_12
    generalize v 13 = y1_13
    have d14 : v 14 = .bool false := hall 14 _ (by decide) rfl
    (try rw [d14])
    clear d14
    have d15 : v 15 = .bool false := hall 15 _ (by decide) rfl
    (try rw [d15])
    clear d15
    have d16 : v 16 = .bool false := hall 16 _ (by decide) rfl
    (try rw [d16])
    clear d16
    have d17 : v 17 = .int .i64 (6) := hall 17 _ (by decide) rfl
    (try rw [d17])
    clear d17
    have d18 : v 18 = .bool true := hall 18 _ (by decide) rfl
    (try rw [d18])
    clear d18
    have d19 : v 19 = .bool true := hall 19 _ (by decide) rfl
    (try rw [d19])
    clear d19
    have d20 : v 20 = .int .i64 (0) := hall 20 _ (by decide) rfl
    (try rw [d20])
    clear d20
    have d21 : v 21 = .bool false := hall 21 _ (by decide) rfl
    (try rw [d21])
    clear d21
    have d22 : v 22 = .bool false := hall 22 _ (by decide) rfl
    (try rw [d22])
    clear d22
    have d23 : v 23 = .int .i64 (6) := hall 23 _ (by decide) rfl
    (try rw [d23])
    clear d23
    have d24 : v 24 = .bool false := hall 24 _ (by decide) rfl
    (try rw [d24])
    clear d24
    have d25 : v 25 = .bool false := hall 25 _ (by decide) rfl
    (try rw [d25])
    clear d25
    have d26 : v 26 = .bool false := hall 26 _ (by decide) rfl
    (try rw [d26])
    clear d26
    have d27 : v 27 = .bool false := hall 27 _ (by decide) rfl
    (try rw [d27])
    clear d27
    clear hall
    replace b_a := b_a.below hC b_a.lt
    replace b_b := b_b.below hC b_b.lt
    replace b_s := b_s.below hC b_s.lt
    replace b_d := b_d.below hC b_d.lt
    replace hB := hB.trans (hC.mono hB.size)
    clear hC
    go_wp2_with (first
      | ((with_reducible refine stop_region 8 ?_); intro X2 hX2))
    refine hX2.out ?_
    clear hX2
    refine wp_region_pred (by kernel_rfl) (by kernel_rfl) [.eq (.agg (nl (0)).toArray), .eq (.int .i64 (6)), .eq (.agg (nl (a)).toArray), .rn (a), .eq (.agg (nl (b)).toArray), .rn (b), .rn (a + b), .eq (.bool true), .eq (.bool true), .eq (.agg (nl (0)).toArray), .eq (.int .i64 (6)), .eq (.agg (nl (a)).toArray), .rn (a), .eq (.agg (nl (b)).toArray), .rn (b), .rn (-b), .rn (a - b), .eq (.bool true), .eq (.bool true), .eq (.bool true), .eq (.agg (nl (a)).toArray), .eq (.agg (nl (b)).toArray), .eq (.int .i64 (R)), .eq (.agg (nl (a)).toArray), .rn (a), .eq (.agg (nl (b)).toArray), .rn (b), .eq (.int .i64 (R)), .eq (.bool true), .eq (.bool true), .eq (.bool true)] (List.replicate 31 none) (fun wx => Below w11.heap.size w11 wx) ?_ ?_ ?_ ?_
    · exact nobs _ _
    · exact (Below.refl _ _).drew
    · simp only [full, Act.put, List.setIfInBounds_toArray, List.set_cons_succ, List.set_cons_zero, Nat.zero_add, Nat.reduceAdd]
      intro i o ho v wx hC hall
      rcases i with _ | _ | _ | _ | _ | _ | _ | _ | _ | _ | _ | _ | _ | _ | _ | _ | _ | _ | _ | _ | _ | _ | _ | _ | _ | _ | _ | _ | _ | _ | _ | i
      · obtain rfl := Option.some.inj ho
        refine gw rfl (g_load_all 24 _ (w4.heap.size) (nl (0)) 24 _ rfl (b_s.below hC b_s.lt) Try.underlying24 rfl (sz24 0) ?_)
        exact ⟨own_pd _ rfl rfl, hC, Below.refl _ _⟩
      · obtain rfl := Option.some.inj ho
        refine gw rfl (g_move _ _ rfl ?_)
        exact ⟨own_pd _ rfl rfl, hC, Below.refl _ _⟩
      · obtain rfl := Option.some.inj ho
        refine gw rfl (g_load_all 24 _ (w.heap.size) (nl (a)) 24 _ rfl (b_a.below hC b_a.lt) Try.underlying24 rfl (sz24 0) ?_)
        exact ⟨own_pd _ rfl rfl, hC, Below.refl _ _⟩
      · obtain rfl := Option.some.inj ho
        have d2 : v 2 = .agg (nl (a)).toArray := hall ⟨2, .data⟩ (by simp) rfl _ rfl
        refine gw rfl (g_call 16 _ _ [.agg (nl (a)).toArray] (kf16 _ _) (by show ([v 2] : List Value) = _; rw [d2]; (try rfl)) ((ref_any a wx w_a).mono ?_))
        rintro e w' ⟨u_, rfl, hp, hb⟩
        exact ⟨_, rfl, own_pd _ rfl hp, hC.trans (hb.mono hC.size), hb⟩
      · obtain rfl := Option.some.inj ho
        refine gw rfl (g_load_all 24 _ (w1.heap.size) (nl (b)) 24 _ rfl (b_b.below hC b_b.lt) Try.underlying24 rfl (sz24 0) ?_)
        exact ⟨own_pd _ rfl rfl, hC, Below.refl _ _⟩
      · obtain rfl := Option.some.inj ho
        have d4 : v 4 = .agg (nl (b)).toArray := hall ⟨4, .data⟩ (by simp) rfl _ rfl
        refine gw rfl (g_call 16 _ _ [.agg (nl (b)).toArray] (kf16 _ _) (by show ([v 4] : List Value) = _; rw [d4]; (try rfl)) ((ref_any b wx w_b).mono ?_))
        rintro e w' ⟨u_, rfl, hp, hb⟩
        exact ⟨_, rfl, own_pd _ rfl hp, hC.trans (hb.mono hC.size), hb⟩
      · obtain rfl := Option.some.inj ho
        have d3 : RN wx (v 3) (a) := hall ⟨3, .data⟩ (by simp) rfl _ rfl
        have d5 : RN wx (v 5) (b) := hall ⟨5, .data⟩ (by simp) rfl _ rfl
        refine gw rfl (g_call 19 _ _ [v 3, v 5] (kf19 _ _) (rfl) ((radd_any _ _ a b (a + b) wx d3 d5 fa fb rfl).mono ?_))
        rintro e w' ⟨u_, rfl, hp, hb⟩
        exact ⟨_, rfl, own_pd _ rfl hp, hC.trans (hb.mono hC.size), hb⟩
      · obtain rfl := Option.some.inj ho
        have d0 : v 0 = .agg (nl (0)).toArray := hall ⟨0, .data⟩ (by simp) rfl _ rfl
        have d1 : v 1 = .int .i64 (6) := hall ⟨1, .data⟩ (by simp) rfl _ rfl
        have d6 : RN wx (v 6) (a + b) := hall ⟨6, .data⟩ (by simp) rfl _ rfl
        refine gw rfl (g_call 18 _ _ [.agg (nl (0)).toArray, .int .i64 (6), v 6] (kf18 _ _) (by show ([v 0, v 1, v 6] : List Value) = _; rw [d0, d1]; (try rfl)) ((same_over _ (a + b) wx d6 fs hAd).mono ?_))
        rintro e w' ⟨rfl, hb⟩
        exact ⟨_, rfl, own_pd _ rfl rfl, hC.trans (hb.mono hC.size), hb⟩
      · obtain rfl := Option.some.inj ho
        have d7 : v 7 = .bool true := hall ⟨7, .data⟩ (by simp) rfl _ rfl
        refine gw rfl (g_move _ _ (show v 7 = _ from d7) ?_)
        exact ⟨own_pd _ rfl rfl, hC, Below.refl _ _⟩
      · obtain rfl := Option.some.inj ho
        have dg : v 8 = .bool true := hall ⟨8, .guard⟩ (by simp) rfl _ rfl
        refine gw (by simp [Region.wanted, yielded, dg]) (g_load_all 24 _ (w7.heap.size) (nl (0)) 24 _ rfl (b_d.below hC b_d.lt) Try.underlying24 rfl (sz24 0) ?_)
        exact ⟨own_pd _ rfl rfl, hC, Below.refl _ _⟩
      · obtain rfl := Option.some.inj ho
        have dg : v 8 = .bool true := hall ⟨8, .guard⟩ (by simp) rfl _ rfl
        refine gw (by simp [Region.wanted, yielded, dg]) (g_move _ _ rfl ?_)
        exact ⟨own_pd _ rfl rfl, hC, Below.refl _ _⟩
      · obtain rfl := Option.some.inj ho
        have dg : v 8 = .bool true := hall ⟨8, .guard⟩ (by simp) rfl _ rfl
        refine gw (by simp [Region.wanted, yielded, dg]) (g_load_all 24 _ (w.heap.size) (nl (a)) 24 _ rfl (b_a.below hC b_a.lt) Try.underlying24 rfl (sz24 0) ?_)
        exact ⟨own_pd _ rfl rfl, hC, Below.refl _ _⟩
      · obtain rfl := Option.some.inj ho
        have dg : v 8 = .bool true := hall ⟨8, .guard⟩ (by simp) rfl _ rfl
        have d11 : v 11 = .agg (nl (a)).toArray := hall ⟨11, .data⟩ (by simp) rfl _ rfl
        refine gw (by simp [Region.wanted, yielded, dg]) (g_call 16 _ _ [.agg (nl (a)).toArray] (kf16 _ _) (by show ([v 11] : List Value) = _; rw [d11]; (try rfl)) ((ref_any a wx w_a).mono ?_))
        rintro e w' ⟨u_, rfl, hp, hb⟩
        exact ⟨_, rfl, own_pd _ rfl hp, hC.trans (hb.mono hC.size), hb⟩
      · obtain rfl := Option.some.inj ho
        have dg : v 8 = .bool true := hall ⟨8, .guard⟩ (by simp) rfl _ rfl
        refine gw (by simp [Region.wanted, yielded, dg]) (g_load_all 24 _ (w1.heap.size) (nl (b)) 24 _ rfl (b_b.below hC b_b.lt) Try.underlying24 rfl (sz24 0) ?_)
        exact ⟨own_pd _ rfl rfl, hC, Below.refl _ _⟩
      · obtain rfl := Option.some.inj ho
        have dg : v 8 = .bool true := hall ⟨8, .guard⟩ (by simp) rfl _ rfl
        have d13 : v 13 = .agg (nl (b)).toArray := hall ⟨13, .data⟩ (by simp) rfl _ rfl
        refine gw (by simp [Region.wanted, yielded, dg]) (g_call 16 _ _ [.agg (nl (b)).toArray] (kf16 _ _) (by show ([v 13] : List Value) = _; rw [d13]; (try rfl)) ((ref_any b wx w_b).mono ?_))
        rintro e w' ⟨u_, rfl, hp, hb⟩
        exact ⟨_, rfl, own_pd _ rfl hp, hC.trans (hb.mono hC.size), hb⟩
      · obtain rfl := Option.some.inj ho
        have dg : v 8 = .bool true := hall ⟨8, .guard⟩ (by simp) rfl _ rfl
        have d14 : RN wx (v 14) (b) := hall ⟨14, .data⟩ (by simp) rfl _ rfl
        refine gw (by simp [Region.wanted, yielded, dg]) (g_call 20 _ _ [v 14] (kf20 _ _) (rfl) ((less_any _ b wx d14 fb).mono ?_))
        rintro e w' ⟨u_, rfl, hp, hb⟩
        exact ⟨_, rfl, own_pd _ rfl hp, hC.trans (hb.mono hC.size), hb⟩
      · obtain rfl := Option.some.inj ho
        have dg : v 8 = .bool true := hall ⟨8, .guard⟩ (by simp) rfl _ rfl
        have d12 : RN wx (v 12) (a) := hall ⟨12, .data⟩ (by simp) rfl _ rfl
        have d15 : RN wx (v 15) (-b) := hall ⟨15, .data⟩ (by simp) rfl _ rfl
        refine gw (by simp [Region.wanted, yielded, dg]) (g_call 19 _ _ [v 12, v 15] (kf19 _ _) (rfl) ((radd_any _ _ a (-b) (a - b) wx d12 d15 fa fnb hab).mono ?_))
        rintro e w' ⟨u_, rfl, hp, hb⟩
        exact ⟨_, rfl, own_pd _ rfl hp, hC.trans (hb.mono hC.size), hb⟩
      · obtain rfl := Option.some.inj ho
        have dg : v 8 = .bool true := hall ⟨8, .guard⟩ (by simp) rfl _ rfl
        have d9 : v 9 = .agg (nl (0)).toArray := hall ⟨9, .data⟩ (by simp) rfl _ rfl
        have d10 : v 10 = .int .i64 (6) := hall ⟨10, .data⟩ (by simp) rfl _ rfl
        have d16 : RN wx (v 16) (a - b) := hall ⟨16, .data⟩ (by simp) rfl _ rfl
        refine gw (by simp [Region.wanted, yielded, dg]) (g_call 18 _ _ [.agg (nl (0)).toArray, .int .i64 (6), v 16] (kf18 _ _) (by show ([v 9, v 10, v 16] : List Value) = _; rw [d9, d10]; (try rfl)) ((same_over _ (a - b) wx d16 fd hSu).mono ?_))
        rintro e w' ⟨rfl, hb⟩
        exact ⟨_, rfl, own_pd _ rfl rfl, hC.trans (hb.mono hC.size), hb⟩
      · obtain rfl := Option.some.inj ho
        have d8 : v 8 = .bool true := hall ⟨8, .data⟩ (by simp) rfl _ rfl
        have d17 : v 17 = .bool true := hall ⟨17, .data⟩ (by simp) rfl _ rfl
        refine gw rfl (g_pickt _ _ _ _ (show v 8 = _ from d8) (show v 17 = _ from d17) ?_)
        exact ⟨own_pd _ rfl rfl, hC, Below.refl _ _⟩
      · obtain rfl := Option.some.inj ho
        have d18 : v 18 = .bool true := hall ⟨18, .data⟩ (by simp) rfl _ rfl
        refine gw rfl (g_move _ _ (show v 18 = _ from d18) ?_)
        exact ⟨own_pd _ rfl rfl, hC, Below.refl _ _⟩
      · obtain rfl := Option.some.inj ho
        have dg : v 19 = .bool true := hall ⟨19, .guard⟩ (by simp) rfl _ rfl
        refine gw (by simp [Region.wanted, yielded, dg]) (g_load_all 24 _ (w.heap.size) (nl (a)) 24 _ rfl (b_a.below hC b_a.lt) Try.underlying24 rfl (sz24 0) ?_)
        exact ⟨own_pd _ rfl rfl, hC, Below.refl _ _⟩
      · obtain rfl := Option.some.inj ho
        have dg : v 19 = .bool true := hall ⟨19, .guard⟩ (by simp) rfl _ rfl
        refine gw (by simp [Region.wanted, yielded, dg]) (g_load_all 24 _ (w1.heap.size) (nl (b)) 24 _ rfl (b_b.below hC b_b.lt) Try.underlying24 rfl (sz24 0) ?_)
        exact ⟨own_pd _ rfl rfl, hC, Below.refl _ _⟩
      · obtain rfl := Option.some.inj ho
        have dg : v 19 = .bool true := hall ⟨19, .guard⟩ (by simp) rfl _ rfl
        have d20 : v 20 = .agg (nl (a)).toArray := hall ⟨20, .data⟩ (by simp) rfl _ rfl
        have d21 : v 21 = .agg (nl (b)).toArray := hall ⟨21, .data⟩ (by simp) rfl _ rfl
        refine gw (by simp [Region.wanted, yielded, dg]) (g_call 21 _ _ [.agg (nl (a)).toArray, .agg (nl (b)).toArray] (kf21 _ _) (by show ([v 20, v 21] : List Value) = _; rw [d20, d21]; (try rfl)) ((cmp_any a b wx R hR).mono ?_))
        rintro e w' ⟨rfl, hb⟩
        exact ⟨_, rfl, own_pd _ rfl rfl, hC.trans (hb.mono hC.size), hb⟩
      · obtain rfl := Option.some.inj ho
        have dg : v 19 = .bool true := hall ⟨19, .guard⟩ (by simp) rfl _ rfl
        refine gw (by simp [Region.wanted, yielded, dg]) (g_load_all 24 _ (w.heap.size) (nl (a)) 24 _ rfl (b_a.below hC b_a.lt) Try.underlying24 rfl (sz24 0) ?_)
        exact ⟨own_pd _ rfl rfl, hC, Below.refl _ _⟩
      · obtain rfl := Option.some.inj ho
        have dg : v 19 = .bool true := hall ⟨19, .guard⟩ (by simp) rfl _ rfl
        have d23 : v 23 = .agg (nl (a)).toArray := hall ⟨23, .data⟩ (by simp) rfl _ rfl
        refine gw (by simp [Region.wanted, yielded, dg]) (g_call 16 _ _ [.agg (nl (a)).toArray] (kf16 _ _) (by show ([v 23] : List Value) = _; rw [d23]; (try rfl)) ((ref_any a wx w_a).mono ?_))
        rintro e w' ⟨u_, rfl, hp, hb⟩
        exact ⟨_, rfl, own_pd _ rfl hp, hC.trans (hb.mono hC.size), hb⟩
      · obtain rfl := Option.some.inj ho
        have dg : v 19 = .bool true := hall ⟨19, .guard⟩ (by simp) rfl _ rfl
        refine gw (by simp [Region.wanted, yielded, dg]) (g_load_all 24 _ (w1.heap.size) (nl (b)) 24 _ rfl (b_b.below hC b_b.lt) Try.underlying24 rfl (sz24 0) ?_)
        exact ⟨own_pd _ rfl rfl, hC, Below.refl _ _⟩
      · obtain rfl := Option.some.inj ho
        have dg : v 19 = .bool true := hall ⟨19, .guard⟩ (by simp) rfl _ rfl
        have d25 : v 25 = .agg (nl (b)).toArray := hall ⟨25, .data⟩ (by simp) rfl _ rfl
        refine gw (by simp [Region.wanted, yielded, dg]) (g_call 16 _ _ [.agg (nl (b)).toArray] (kf16 _ _) (by show ([v 25] : List Value) = _; rw [d25]; (try rfl)) ((ref_any b wx w_b).mono ?_))
        rintro e w' ⟨u_, rfl, hp, hb⟩
        exact ⟨_, rfl, own_pd _ rfl hp, hC.trans (hb.mono hC.size), hb⟩
      · obtain rfl := Option.some.inj ho
        have dg : v 19 = .bool true := hall ⟨19, .guard⟩ (by simp) rfl _ rfl
        have d24 : RN wx (v 24) (a) := hall ⟨24, .data⟩ (by simp) rfl _ rfl
        have d26 : RN wx (v 26) (b) := hall ⟨26, .data⟩ (by simp) rfl _ rfl
        refine gw (by simp [Region.wanted, yielded, dg]) (g_call 22 _ _ [v 24, v 26] (kf22 _ _) (rfl) ((rcmp_any _ _ a b R wx d24 d26 fa fb hR).mono ?_))
        rintro e w' ⟨rfl, hb⟩
        exact ⟨_, rfl, own_pd _ rfl rfl, hC.trans (hb.mono hC.size), hb⟩
      · obtain rfl := Option.some.inj ho
        have dg : v 19 = .bool true := hall ⟨19, .guard⟩ (by simp) rfl _ rfl
        have d22 : v 22 = .int .i64 (R) := hall ⟨22, .data⟩ (by simp) rfl _ rfl
        have d27 : v 27 = .int .i64 (R) := hall ⟨27, .data⟩ (by simp) rfl _ rfl
        refine gw (by simp [Region.wanted, yielded, dg]) (g_ieq 3 _ _ .i64 _ _ true (show v 22 = _ from d22) (show v 27 = _ from d27) (decide_eq_true rfl) ?_)
        exact ⟨own_pd _ rfl rfl, hC, Below.refl _ _⟩
      · obtain rfl := Option.some.inj ho
        have d19 : v 19 = .bool true := hall ⟨19, .data⟩ (by simp) rfl _ rfl
        have d28 : v 28 = .bool true := hall ⟨28, .data⟩ (by simp) rfl _ rfl
        refine gw rfl (g_pickt _ _ _ _ (show v 19 = _ from d19) (show v 28 = _ from d28) ?_)
        exact ⟨own_pd _ rfl rfl, hC, Below.refl _ _⟩
      · obtain rfl := Option.some.inj ho
        have d29 : v 29 = .bool true := hall ⟨29, .data⟩ (by simp) rfl _ rfl
        refine gw rfl (g_assign _ _ (show v 29 = _ from d29) ?_)
        exact ⟨own_pd _ rfl rfl, hC, Below.refl _ _⟩
      · simp at ho
    · simp only [full, Act.put, List.setIfInBounds_toArray, List.set_cons_succ, List.set_cons_zero, Nat.zero_add, Nat.reduceAdd]
      intro v w12 hC hall
      have d0 : v 0 = .agg (nl (0)).toArray := hall 0 _ (by decide) rfl
      (try rw [d0])
      clear d0
      have d1 : v 1 = .int .i64 (6) := hall 1 _ (by decide) rfl
      (try rw [d1])
      clear d1
      have d2 : v 2 = .agg (nl (a)).toArray := hall 2 _ (by decide) rfl
      (try rw [d2])
      clear d2
      generalize v 3 = y2_3
      have d4 : v 4 = .agg (nl (b)).toArray := hall 4 _ (by decide) rfl
      (try rw [d4])
      clear d4
      generalize v 5 = y2_5
      generalize v 6 = y2_6
      have d7 : v 7 = .bool true := hall 7 _ (by decide) rfl
      (try rw [d7])
      clear d7
      have d8 : v 8 = .bool true := hall 8 _ (by decide) rfl
      (try rw [d8])
      clear d8
      have d9 : v 9 = .agg (nl (0)).toArray := hall 9 _ (by decide) rfl
      (try rw [d9])
      clear d9
      have d10 : v 10 = .int .i64 (6) := hall 10 _ (by decide) rfl
      (try rw [d10])
      clear d10
      have d11 : v 11 = .agg (nl (a)).toArray := hall 11 _ (by decide) rfl
      (try rw [d11])
      clear d11
      generalize v 12 = y2_12
      have d13 : v 13 = .agg (nl (b)).toArray := hall 13 _ (by decide) rfl
      (try rw [d13])
      clear d13
      generalize v 14 = y2_14
      generalize v 15 = y2_15
      generalize v 16 = y2_16
      have d17 : v 17 = .bool true := hall 17 _ (by decide) rfl
      (try rw [d17])
      clear d17
      have d18 : v 18 = .bool true := hall 18 _ (by decide) rfl
      (try rw [d18])
      clear d18
      have d19 : v 19 = .bool true := hall 19 _ (by decide) rfl
      (try rw [d19])
      clear d19
      have d20 : v 20 = .agg (nl (a)).toArray := hall 20 _ (by decide) rfl
      (try rw [d20])
      clear d20
      have d21 : v 21 = .agg (nl (b)).toArray := hall 21 _ (by decide) rfl
      (try rw [d21])
      clear d21
      have d22 : v 22 = .int .i64 (R) := hall 22 _ (by decide) rfl
      (try rw [d22])
      clear d22
      have d23 : v 23 = .agg (nl (a)).toArray := hall 23 _ (by decide) rfl
      (try rw [d23])
      clear d23
      generalize v 24 = y2_24
      have d25 : v 25 = .agg (nl (b)).toArray := hall 25 _ (by decide) rfl
      (try rw [d25])
      clear d25
      generalize v 26 = y2_26
      have d27 : v 27 = .int .i64 (R) := hall 27 _ (by decide) rfl
      (try rw [d27])
      clear d27
      have d28 : v 28 = .bool true := hall 28 _ (by decide) rfl
      (try rw [d28])
      clear d28
      have d29 : v 29 = .bool true := hall 29 _ (by decide) rfl
      (try rw [d29])
      clear d29
      have d30 : v 30 = .bool true := hall 30 _ (by decide) rfl
      (try rw [d30])
      clear d30
      clear hall
      replace b_a := b_a.below hC b_a.lt
      replace b_b := b_b.below hC b_b.lt
      replace b_s := b_s.below hC b_s.lt
      replace b_d := b_d.below hC b_d.lt
      replace hB := hB.trans (hC.mono hB.size)
      clear hC
      go_wp2_with fail
      go_ret
      exact ⟨rfl, hB⟩

theorem walk (a : Int) (b : Int) (w_a : In128 a) (w_b : In128 b) (w : World) :
    Calls Try.prog 3 #[.agg (nl a).toArray, .agg (nl b).toArray] w fun e w' => e = .returned (.bool true) ∧ Below w.heap.size w w' := by
  have ha := w_a
  have hb := w_b
  unfold In128 at ha hb
  by_cases hi : In64 a <;> by_cases ho : In128 (a + b) <;> by_cases hs : In128 (a - b)
  · exact walk111 a b w_a w_b w _ rfl (few128 _ (by omega)) (few128 _ (by omega)) (few128 _ (by omega)) (few128 _ (by omega)) (few128 _ (by omega)) hi ho hs
  · exact walk110 a b w_a w_b w _ rfl (few128 _ (by omega)) (few128 _ (by omega)) (few128 _ (by omega)) (few128 _ (by omega)) (few128 _ (by omega)) hi ho hs
  · exact walk101 a b w_a w_b w _ rfl (few128 _ (by omega)) (few128 _ (by omega)) (few128 _ (by omega)) (few128 _ (by omega)) (few128 _ (by omega)) hi ho hs
  · exact walk100 a b w_a w_b w _ rfl (few128 _ (by omega)) (few128 _ (by omega)) (few128 _ (by omega)) (few128 _ (by omega)) (few128 _ (by omega)) hi ho hs
  · exact walk011 a b w_a w_b w _ rfl (few128 _ (by omega)) (few128 _ (by omega)) (few128 _ (by omega)) (few128 _ (by omega)) (few128 _ (by omega)) hi ho hs
  · exact walk010 a b w_a w_b w _ rfl (few128 _ (by omega)) (few128 _ (by omega)) (few128 _ (by omega)) (few128 _ (by omega)) (few128 _ (by omega)) hi ho hs
  · exact walk001 a b w_a w_b w _ rfl (few128 _ (by omega)) (few128 _ (by omega)) (few128 _ (by omega)) (few128 _ (by omega)) (few128 _ (by omega)) hi ho hs
  · exact walk000 a b w_a w_b w _ rfl (few128 _ (by omega)) (few128 _ (by omega)) (few128 _ (by omega)) (few128 _ (by omega)) (few128 _ (by omega)) hi ho hs

end Go.Proofs.Ytkgcnbmnhbmdiaa.wideAdds
