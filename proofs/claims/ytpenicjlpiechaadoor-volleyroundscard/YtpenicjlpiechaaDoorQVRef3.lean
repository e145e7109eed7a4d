/- What the reference's Within answers. -/
import Derived.Test.YtpenicjlpiechaaDoorQVRef1
namespace Go.Proofs.YtpenicjlpiechaaDoor.Wd
set_option maxRecDepth 10000
open Go Go.RowKit
set_option linter.unusedVariables false
set_option linter.unusedSimpArgs false

set_option maxRecDepth 10000 in
set_option maxHeartbeats 8000000 in
theorem vwith_l (o d b p e c D T : Int) (B : Bool) (hw9 : Hid (wth o b p c = B)) (w : World) (io : In64 o) (ip : In64 p) (ib : In64 b) (ic : In64 c) (hD : Hid (o + -p = D)) (hT : Hid (b + c = T)) (fo : Few o 200) (fp : Few p 200) (fnp : Few (-p) 200) (fD : Few D 200) (fnD : Few (-D) 200) (fb : Few b 200) (fc : Few c 200) (fT : Few T 200) :
    Calls Tryd.prog 14 #[.agg (smc (o) (d) (b)).toArray, .agg (smc (p) (e) (c)).toArray] w fun e w' => e = .returned (.bool B) ∧ Below w.heap.size w w' := by
  go_enter Tryd.func14, Tryd.ntmps14
  go_wp2_with (first
    | ((with_reducible refine at_boxD 2 28 ?_); refine L_box 28 _ (smc (o) (d) (b)) rfl ?_; intro w1 t_ b_k; have l_k : w.heap.size ≤ w.heap.size := Nat.le_refl _; have hB : Below w.heap.size w w1 := t_.below (Below.refl _ _) (Nat.le_refl _); clear t_)
    | ((with_reducible refine at_boxD 3 28 ?_); refine L_box 28 _ (smc (p) (e) (c)) rfl ?_; intro w2 t_ b_l; have l_l : w.heap.size ≤ w1.heap.size := hB.size; have o_l := b_k.lt; replace b_k := t_.blk b_k (by omega); replace hB := t_.below hB l_l; clear t_)
    | ((with_reducible refine stop_region 1 ?_); intro X1 hX1))
  refine hX1.out ?_
  clear hX1
  have hB0 : w2.heap.size ≤ w2.heap.size := Nat.le_refl _
  have lt_k := b_k.lt
  have lt_l := b_l.lt
  refine wp_region_inv (by kernel_rfl) (by kernel_rfl) (fun t v wx => Below w2.heap.size w2 wx ∧ (t 0 = true → v 0 = .pointer (some ⟨w.heap.size, 0, none⟩)) ∧ (t 1 = true → v 1 = .int .i64 (o)) ∧ (t 2 = true → RN wx (v 2) (o)) ∧ (t 3 = true → v 3 = .pointer (some ⟨w1.heap.size, 0, none⟩)) ∧ (t 4 = true → v 4 = .int .i64 (p)) ∧ (t 5 = true → RN wx (v 5) (p)) ∧ (t 6 = true → RN wx (v 6) (-p)) ∧ (t 7 = true → RN wx (v 7) (D)) ∧ (t 8 = true → ∃ p, v 8 = .pointer (some ⟨p, 0, none⟩) ∧ p < wx.heap.size ∧ w2.heap.size ≤ p ∧ (t 9 = false → Blk wx p [.bool false, .slice none 0 0] 72) ∧ (t 9 = true → RA wx (p) (D))) ∧ (t 9 = true → t 8 = true)) ?_ ?_ ?_
  · exact ⟨(Below.refl _ _).drew, (fun h => by cases h), (fun h => by cases h), (fun h => by cases h), (fun h => by cases h), (fun h => by cases h), (fun h => by cases h), (fun h => by cases h), (fun h => by cases h), (fun h => by cases h), (fun h => by cases h)⟩
  · simp only [full, Act.put, List.setIfInBounds_toArray, List.set_cons_succ, List.set_cons_zero, Nat.zero_add, Nat.reduceAdd]
    intro i o ho t v wx hS hti hall
    obtain ⟨hC, k0, k1, k2, k3, k4, k5, k6, k7, k8, k9⟩ := hS
    have hnw : w2.heap.size ≤ wx.heap.size := Nat.le_trans hB0 hC.size
    rcases i with _ | _ | _ | _ | _ | _ | _ | _ | _ | _ | i
    · obtain rfl := Option.some.inj ho
      refine g_fa 28 _ (w.heap.size) 0 0 0 rfl (faRs0 _ _ 0) ?_
      exact ⟨hC, newE rfl, keepE (by decide) k1, (fun h => by rw [setB_other _ _ _ (by decide)] at h; rw [setV_other _ _ _ _ (by decide)]; exact k2 h), keepE (by decide) k3, keepE (by decide) k4, (fun h => by rw [setB_other _ _ _ (by decide)] at h; rw [setV_other _ _ _ _ (by decide)]; exact k5 h), (fun h => by rw [setB_other _ _ _ (by decide)] at h; rw [setV_other _ _ _ _ (by decide)]; exact k6 h), (fun h => by rw [setB_other _ _ _ (by decide)] at h; rw [setV_other _ _ _ _ (by decide)]; exact k7 h), (fun h => by rw [setB_other _ _ _ (by decide)] at h; obtain ⟨p', f1, f2, f4, f3, f5⟩ := k8 h; refine ⟨p', by rw [setV_other _ _ _ _ (by decide)]; exact f1, f2, f4, fun h5 => ?_, fun h5 => ?_⟩ <;> rw [setB_other _ _ _ (by decide)] at h5 <;> first | exact f3 h5 | exact f5 h5), (fun h => by rw [setB_other _ _ _ (by decide)] at h ⊢; exact k9 h)⟩
    · obtain rfl := Option.some.inj ho
      have d0 := k0 (hall ⟨0, .data⟩ (by simp) rfl)
      refine g_cell2 _ (w.heap.size) 0 (smc (o) (d) (b)) 28 _ (show v 0 = _ from d0) (b_k.below hC b_k.lt) (rfl) ?_
      exact ⟨hC, keepE (by decide) k0, newE rfl, (fun h => by rw [setB_other _ _ _ (by decide)] at h; rw [setV_other _ _ _ _ (by decide)]; exact k2 h), keepE (by decide) k3, keepE (by decide) k4, (fun h => by rw [setB_other _ _ _ (by decide)] at h; rw [setV_other _ _ _ _ (by decide)]; exact k5 h), (fun h => by rw [setB_other _ _ _ (by decide)] at h; rw [setV_other _ _ _ _ (by decide)]; exact k6 h), (fun h => by rw [setB_other _ _ _ (by decide)] at h; rw [setV_other _ _ _ _ (by decide)]; exact k7 h), (fun h => by rw [setB_other _ _ _ (by decide)] at h; obtain ⟨p', f1, f2, f4, f3, f5⟩ := k8 h; refine ⟨p', by rw [setV_other _ _ _ _ (by decide)]; exact f1, f2, f4, fun h5 => ?_, fun h5 => ?_⟩ <;> rw [setB_other _ _ _ (by decide)] at h5 <;> first | exact f3 h5 | exact f5 h5), (fun h => by rw [setB_other _ _ _ (by decide)] at h ⊢; exact k9 h)⟩
    · obtain rfl := Option.some.inj ho
      have d1 := k1 (hall ⟨1, .data⟩ (by simp) rfl)
      refine g_call 36 _ _ [.int .i64 (o)] (kf36 _ _) (by show ([v 1] : List Value) = _; rw [d1]; (try rfl)) ((rof_any o wx io).mono ?_)
      rintro e w' ⟨u_, rfl, hp, hb⟩
      exact ⟨_, rfl, hC.trans (hb.mono hnw), keepE (by decide) k0, keepE (by decide) k1, (fun _ => by rw [setV_self]; exact hp), keepE (by decide) k3, keepE (by decide) k4, (fun h => by rw [setB_other _ _ _ (by decide)] at h; rw [setV_other _ _ _ _ (by decide)]; exact (k5 h).below hb), (fun h => by rw [setB_other _ _ _ (by decide)] at h; rw [setV_other _ _ _ _ (by decide)]; exact (k6 h).below hb), (fun h => by rw [setB_other _ _ _ (by decide)] at h; rw [setV_other _ _ _ _ (by decide)]; exact (k7 h).below hb), (fun h => by rw [setB_other _ _ _ (by decide)] at h; obtain ⟨p', f1, f2, f4, f3, f5⟩ := k8 h; refine ⟨p', by rw [setV_other _ _ _ _ (by decide)]; exact f1, Nat.lt_of_lt_of_le f2 hb.size, f4, fun h5 => ?_, fun h5 => ?_⟩ <;> rw [setB_other _ _ _ (by decide)] at h5 <;> first | exact (f3 h5).below hb f2 | exact (f5 h5).below hb), (fun h => by rw [setB_other _ _ _ (by decide)] at h ⊢; exact k9 h)⟩
    · obtain rfl := Option.some.inj ho
      refine g_fa 28 _ (w1.heap.size) 0 0 0 rfl (faRs0 _ _ 0) ?_
      exact ⟨hC, keepE (by decide) k0, keepE (by decide) k1, (fun h => by rw [setB_other _ _ _ (by decide)] at h; rw [setV_other _ _ _ _ (by decide)]; exact k2 h), newE rfl, keepE (by decide) k4, (fun h => by rw [setB_other _ _ _ (by decide)] at h; rw [setV_other _ _ _ _ (by decide)]; exact k5 h), (fun h => by rw [setB_other _ _ _ (by decide)] at h; rw [setV_other _ _ _ _ (by decide)]; exact k6 h), (fun h => by rw [setB_other _ _ _ (by decide)] at h; rw [setV_other _ _ _ _ (by decide)]; exact k7 h), (fun h => by rw [setB_other _ _ _ (by decide)] at h; obtain ⟨p', f1, f2, f4, f3, f5⟩ := k8 h; refine ⟨p', by rw [setV_other _ _ _ _ (by decide)]; exact f1, f2, f4, fun h5 => ?_, fun h5 => ?_⟩ <;> rw [setB_other _ _ _ (by decide)] at h5 <;> first | exact f3 h5 | exact f5 h5), (fun h => by rw [setB_other _ _ _ (by decide)] at h ⊢; exact k9 h)⟩
    · obtain rfl := Option.some.inj ho
      have d3 := k3 (hall ⟨3, .data⟩ (by simp) rfl)
      refine g_cell2 _ (w1.heap.size) 0 (smc (p) (e) (c)) 28 _ (show v 3 = _ from d3) (b_l.below hC b_l.lt) (rfl) ?_
      exact ⟨hC, keepE (by decide) k0, keepE (by decide) k1, (fun h => by rw [setB_other _ _ _ (by decide)] at h; rw [setV_other _ _ _ _ (by decide)]; exact k2 h), keepE (by decide) k3, newE rfl, (fun h => by rw [setB_other _ _ _ (by decide)] at h; rw [setV_other _ _ _ _ (by decide)]; exact k5 h), (fun h => by rw [setB_other _ _ _ (by decide)] at h; rw [setV_other _ _ _ _ (by decide)]; exact k6 h), (fun h => by rw [setB_other _ _ _ (by decide)] at h; rw [setV_other _ _ _ _ (by decide)]; exact k7 h), (fun h => by rw [setB_other _ _ _ (by decide)] at h; obtain ⟨p', f1, f2, f4, f3, f5⟩ := k8 h; refine ⟨p', by rw [setV_other _ _ _ _ (by decide)]; exact f1, f2, f4, fun h5 => ?_, fun h5 => ?_⟩ <;> rw [setB_other _ _ _ (by decide)] at h5 <;> first | exact f3 h5 | exact f5 h5), (fun h => by rw [setB_other _ _ _ (by decide)] at h ⊢; exact k9 h)⟩
    · obtain rfl := Option.some.inj ho
      have d4 := k4 (hall ⟨4, .data⟩ (by simp) rfl)
      refine g_call 36 _ _ [.int .i64 (p)] (kf36 _ _) (by show ([v 4] : List Value) = _; rw [d4]; (try rfl)) ((rof_any p wx ip).mono ?_)
      rintro e w' ⟨u_, rfl, hp, hb⟩
      exact ⟨_, rfl, hC.trans (hb.mono hnw), keepE (by decide) k0, keepE (by decide) k1, (fun h => by rw [setB_other _ _ _ (by decide)] at h; rw [setV_other _ _ _ _ (by decide)]; exact (k2 h).below hb), keepE (by decide) k3, keepE (by decide) k4, (fun _ => by rw [setV_self]; exact hp), (fun h => by rw [setB_other _ _ _ (by decide)] at h; rw [setV_other _ _ _ _ (by decide)]; exact (k6 h).below hb), (fun h => by rw [setB_other _ _ _ (by decide)] at h; rw [setV_other _ _ _ _ (by decide)]; exact (k7 h).below hb), (fun h => by rw [setB_other _ _ _ (by decide)] at h; obtain ⟨p', f1, f2, f4, f3, f5⟩ := k8 h; refine ⟨p', by rw [setV_other _ _ _ _ (by decide)]; exact f1, Nat.lt_of_lt_of_le f2 hb.size, f4, fun h5 => ?_, fun h5 => ?_⟩ <;> rw [setB_other _ _ _ (by decide)] at h5 <;> first | exact (f3 h5).below hb f2 | exact (f5 h5).below hb), (fun h => by rw [setB_other _ _ _ (by decide)] at h ⊢; exact k9 h)⟩
    · obtain rfl := Option.some.inj ho
      have d5 := k5 (hall ⟨5, .data⟩ (by simp) rfl)
      refine g_call 34 _ _ [v 5] (kf34 _ _) (rfl) ((less_any _ p wx d5 fp).mono ?_)
      rintro e w' ⟨u_, rfl, hp, hb⟩
      exact ⟨_, rfl, hC.trans (hb.mono hnw), keepE (by decide) k0, keepE (by decide) k1, (fun h => by rw [setB_other _ _ _ (by decide)] at h; rw [setV_other _ _ _ _ (by decide)]; exact (k2 h).below hb), keepE (by decide) k3, keepE (by decide) k4, (fun h => by rw [setB_other _ _ _ (by decide)] at h; rw [setV_other _ _ _ _ (by decide)]; exact (k5 h).below hb), (fun _ => by rw [setV_self]; exact hp), (fun h => by rw [setB_other _ _ _ (by decide)] at h; rw [setV_other _ _ _ _ (by decide)]; exact (k7 h).below hb), (fun h => by rw [setB_other _ _ _ (by decide)] at h; obtain ⟨p', f1, f2, f4, f3, f5⟩ := k8 h; refine ⟨p', by rw [setV_other _ _ _ _ (by decide)]; exact f1, Nat.lt_of_lt_of_le f2 hb.size, f4, fun h5 => ?_, fun h5 => ?_⟩ <;> rw [setB_other _ _ _ (by decide)] at h5 <;> first | exact (f3 h5).below hb f2 | exact (f5 h5).below hb), (fun h => by rw [setB_other _ _ _ (by decide)] at h ⊢; exact k9 h)⟩
    · obtain rfl := Option.some.inj ho
      have d2 := k2 (hall ⟨2, .data⟩ (by simp) rfl)
      have d6 := k6 (hall ⟨6, .data⟩ (by simp) rfl)
      refine g_call 33 _ _ [v 2, v 6] (kf33 _ _) (rfl) ((radd_any _ _ o (-p) D wx d2 d6 fo fnp hD).mono ?_)
      rintro e w' ⟨u_, rfl, hp, hb⟩
      exact ⟨_, rfl, hC.trans (hb.mono hnw), keepE (by decide) k0, keepE (by decide) k1, (fun h => by rw [setB_other _ _ _ (by decide)] at h; rw [setV_other _ _ _ _ (by decide)]; exact (k2 h).below hb), keepE (by decide) k3, keepE (by decide) k4, (fun h => by rw [setB_other _ _ _ (by decide)] at h; rw [setV_other _ _ _ _ (by decide)]; exact (k5 h).below hb), (fun h => by rw [setB_other _ _ _ (by decide)] at h; rw [setV_other _ _ _ _ (by decide)]; exact (k6 h).below hb), (fun _ => by rw [setV_self]; exact hp), (fun h => by rw [setB_other _ _ _ (by decide)] at h; obtain ⟨p', f1, f2, f4, f3, f5⟩ := k8 h; refine ⟨p', by rw [setV_other _ _ _ _ (by decide)]; exact f1, Nat.lt_of_lt_of_le f2 hb.size, f4, fun h5 => ?_, fun h5 => ?_⟩ <;> rw [setB_other _ _ _ (by decide)] at h5 <;> first | exact (f3 h5).below hb f2 | exact (f5 h5).below hb), (fun h => by rw [setB_other _ _ _ (by decide)] at h ⊢; exact k9 h)⟩
    · obtain rfl := Option.some.inj ho
      refine g_alloc 72 _ zeroR (fun w' h1 h2 => ?_)
      exact ⟨h1.below hC hnw, keepE (by decide) k0, keepE (by decide) k1, (fun h => by rw [setB_other _ _ _ (by decide)] at h; rw [setV_other _ _ _ _ (by decide)]; exact (k2 h).below h1.toBelow), keepE (by decide) k3, keepE (by decide) k4, (fun h => by rw [setB_other _ _ _ (by decide)] at h; rw [setV_other _ _ _ _ (by decide)]; exact (k5 h).below h1.toBelow), (fun h => by rw [setB_other _ _ _ (by decide)] at h; rw [setV_other _ _ _ _ (by decide)]; exact (k6 h).below h1.toBelow), (fun h => by rw [setB_other _ _ _ (by decide)] at h; rw [setV_other _ _ _ _ (by decide)]; exact (k7 h).below h1.toBelow), (fun _ => ⟨wx.heap.size, setV_self _ _ _, h2.lt, hC.size, fun _ => h2, fun h => by rw [setB_other _ _ _ (by decide)] at h; have := k9 h; rw [hti] at this; cases this⟩), (fun _ => setB_self _ _)⟩
    · obtain rfl := Option.some.inj ho
      have ht_ := hall ⟨8, .data⟩ (by simp) rfl
      obtain ⟨p, e1, e2, e4, e3, e5⟩ := k8 ht_
      have hold := e3 hti
      have hlo : w2.heap.size ≤ p := Nat.le_trans hB0 e4
      obtain ⟨s8, b8, e8, r8⟩ := k7 (hall ⟨7, .data⟩ (by simp) rfl)
      refine g_store_all 72 _ _ (p) [.bool s8, b8] _ 72 (show v 8 = _ from e1) (show v 7 = _ from e8) hold szR rfl (one_rc _ _ r8.sl) (fun w' h1 h2 => ?_)
      exact ⟨h1.below hC hlo, keepE (by decide) k0, keepE (by decide) k1, (fun h => by rw [setB_other _ _ _ (by decide)] at h; rw [setV_other _ _ _ _ (by decide)]; exact (k2 h).turn h1 hold (by decide)), keepE (by decide) k3, keepE (by decide) k4, (fun h => by rw [setB_other _ _ _ (by decide)] at h; rw [setV_other _ _ _ _ (by decide)]; exact (k5 h).turn h1 hold (by decide)), (fun h => by rw [setB_other _ _ _ (by decide)] at h; rw [setV_other _ _ _ _ (by decide)]; exact (k6 h).turn h1 hold (by decide)), (fun h => by rw [setB_other _ _ _ (by decide)] at h; rw [setV_other _ _ _ _ (by decide)]; exact (k7 h).turn h1 hold (by decide)), (fun h => ⟨p, by rw [setV_other _ _ _ _ (by decide)]; exact e1, Nat.lt_of_lt_of_le e2 h1.size, e4, (fun h => by have := setB_self t 9; rw [h] at this; cases this), fun _ => ⟨_, _, h2, r8.turn h1 hold (by decide)⟩⟩), (fun _ => by rw [setB_other _ _ _ (by decide)]; exact ht_)⟩
    · simp at ho
  · simp only [full, Act.put, List.setIfInBounds_toArray, List.set_cons_succ, List.set_cons_zero, Nat.zero_add, Nat.reduceAdd]
    intro t v w3 hS ht
    obtain ⟨hC, k0, k1, k2, k3, k4, k5, k6, k7, k8, k9⟩ := hS
    obtain ⟨p_x, e1_x, -, e4_x, -, e5_x⟩ := k8 (ht 8 (by decide))
    obtain ⟨s_x, v_x, b_x, r_x⟩ := e5_x (ht 9 (by decide))
    rw [e1_x]
    have d0 := k0 (ht 0 (by decide)); (try rw [d0])
    clear d0
    have d1 := k1 (ht 1 (by decide)); (try rw [d1])
    clear d1
    have d3 := k3 (ht 3 (by decide)); (try rw [d3])
    clear d3
    have d4 := k4 (ht 4 (by decide)); (try rw [d4])
    clear d4
    clear ht k0 k1 k2 k3 k4 k5 k6 k7 k8 k9 e1_x e5_x lt_k lt_l
    generalize v 2 = y1_2
    generalize v 5 = y1_5
    generalize v 6 = y1_6
    generalize v 7 = y1_7
    generalize v 9 = y1_9
    have l_x : w.heap.size ≤ p_x := Nat.le_trans hB.size e4_x
    have o_x : w1.heap.size < p_x := Nat.lt_of_lt_of_le b_l.lt e4_x
    clear e4_x
    clear hB0
    replace b_k := b_k.below hC b_k.lt
    replace b_l := b_l.below hC b_l.lt
    replace hB := hB.trans (hC.mono hB.size)
    clear hC
    go_wp2_with (first
      | ((with_reducible refine stop_list 15 ?_); intro X9 hX9))
    refine hX9.out ?_
    clear hX9
    have hsg := r_x.sign
    by_cases hd : D < 0
    · rw [decide_eq_true hd] at hsg
      subst hsg
      go_wp2_with (first
        | ((with_reducible refine at_loadD 16 4 ?_); refine L_give (by rfl) (g_cell4 _ (p_x) 0 ([.bool true, v_x]) 72 (.bool true) rfl b_x (rfl) ?_))
        | ((with_reducible refine at_loadD 17 72 ?_); refine L_load_all 72 _ (p_x) ([.bool true, v_x]) 72 _ rfl b_x Tryd.underlying72 rfl (szR) ?_))
      refine (less_any _ D w3 ⟨_, _, rfl, r_x⟩ fD).mono ?_
      rintro e w4 ⟨_, rfl, ⟨s_n18, v_n18, rfl, r_n18⟩, t_⟩
      replace r_x := r_x.below t_
      replace b_k := b_k.below t_ b_k.lt
      replace b_l := b_l.below t_ b_l.lt
      replace b_x := b_x.below t_ b_x.lt
      replace hB := hB.trans (t_.mono hB.size)
      clear t_
      go_wp2_with (first
        | ((with_reducible refine at_storeX 5 72 ?_); refine L_store_all 72 _ _ (p_x) ([.bool s_n18, v_n18]) _ 72 rfl rfl b_x (szR) (rfl) (one_rc _ _ r_n18.sl) ?_; have b0_x := b_x; clear b_x; intro w5 t_ b_x; replace r_x := r_x.turn t_ b0_x (by decide); replace r_n18 := r_n18.turn t_ b0_x (by decide); replace b_k := t_.blk b_k (by omega); replace b_l := t_.blk b_l (by omega); replace hB := t_.below hB l_x; clear t_ b0_x)
        | ((with_reducible refine stop_region 4 ?_); intro X2 hX2))
      refine hX2.out ?_
      clear hX2
      have hB0 : w5.heap.size ≤ w5.heap.size := Nat.le_refl _
      have lt_k := b_k.lt
      have lt_l := b_l.lt
      have lt_x := b_x.lt
      refine wp_region_inv (by kernel_rfl) (by kernel_rfl) (fun t v wx => Below w5.heap.size w5 wx ∧ (t 0 = true → v 0 = .pointer (some ⟨w.heap.size, 2, none⟩)) ∧ (t 1 = true → v 1 = .int .i64 (b)) ∧ (t 2 = true → RN wx (v 2) (b)) ∧ (t 3 = true → v 3 = .pointer (some ⟨w1.heap.size, 2, none⟩)) ∧ (t 4 = true → v 4 = .int .i64 (c)) ∧ (t 5 = true → RN wx (v 5) (c)) ∧ (t 6 = true → RN wx (v 6) (T)) ∧ (t 7 = true → ∃ p, v 7 = .pointer (some ⟨p, 0, none⟩) ∧ p < wx.heap.size ∧ w5.heap.size ≤ p ∧ (t 8 = false → Blk wx p [.bool false, .slice none 0 0] 72) ∧ (t 8 = true → RA wx (p) (T))) ∧ (t 8 = true → t 7 = true)) ?_ ?_ ?_
      · exact ⟨(Below.refl _ _).drew, (fun h => by cases h), (fun h => by cases h), (fun h => by cases h), (fun h => by cases h), (fun h => by cases h), (fun h => by cases h), (fun h => by cases h), (fun h => by cases h), (fun h => by cases h)⟩
      · simp only [full, Act.put, List.setIfInBounds_toArray, List.set_cons_succ, List.set_cons_zero, Nat.zero_add, Nat.reduceAdd]
        intro i o ho t v wx hS hti hall
        obtain ⟨hC, k0, k1, k2, k3, k4, k5, k6, k7, k8⟩ := hS
        have hnw : w5.heap.size ≤ wx.heap.size := Nat.le_trans hB0 hC.size
        rcases i with _ | _ | _ | _ | _ | _ | _ | _ | _ | i
        · obtain rfl := Option.some.inj ho
          refine g_fa 28 _ (w.heap.size) 0 2 2 rfl (faRs2 _ _ 0) ?_
          exact ⟨hC, newE rfl, keepE (by decide) k1, (fun h => by rw [setB_other _ _ _ (by decide)] at h; rw [setV_other _ _ _ _ (by decide)]; exact k2 h), keepE (by decide) k3, keepE (by decide) k4, (fun h => by rw [setB_other _ _ _ (by decide)] at h; rw [setV_other _ _ _ _ (by decide)]; exact k5 h), (fun h => by rw [setB_other _ _ _ (by decide)] at h; rw [setV_other _ _ _ _ (by decide)]; exact k6 h), (fun h => by rw [setB_other _ _ _ (by decide)] at h; obtain ⟨p', f1, f2, f4, f3, f5⟩ := k7 h; refine ⟨p', by rw [setV_other _ _ _ _ (by decide)]; exact f1, f2, f4, fun h5 => ?_, fun h5 => ?_⟩ <;> rw [setB_other _ _ _ (by decide)] at h5 <;> first | exact f3 h5 | exact f5 h5), (fun h => by rw [setB_other _ _ _ (by decide)] at h ⊢; exact k8 h)⟩
        · obtain rfl := Option.some.inj ho
          have d0 := k0 (hall ⟨0, .data⟩ (by simp) rfl)
          refine g_cell2 _ (w.heap.size) 2 (smc (o) (d) (b)) 28 _ (show v 0 = _ from d0) (b_k.below hC b_k.lt) (rfl) ?_
          exact ⟨hC, keepE (by decide) k0, newE rfl, (fun h => by rw [setB_other _ _ _ (by decide)] at h; rw [setV_other _ _ _ _ (by decide)]; exact k2 h), keepE (by decide) k3, keepE (by decide) k4, (fun h => by rw [setB_other _ _ _ (by decide)] at h; rw [setV_other _ _ _ _ (by decide)]; exact k5 h), (fun h => by rw [setB_other _ _ _ (by decide)] at h; rw [setV_other _ _ _ _ (by decide)]; exact k6 h), (fun h => by rw [setB_other _ _ _ (by decide)] at h; obtain ⟨p', f1, f2, f4, f3, f5⟩ := k7 h; refine ⟨p', by rw [setV_other _ _ _ _ (by decide)]; exact f1, f2, f4, fun h5 => ?_, fun h5 => ?_⟩ <;> rw [setB_other _ _ _ (by decide)] at h5 <;> first | exact f3 h5 | exact f5 h5), (fun h => by rw [setB_other _ _ _ (by decide)] at h ⊢; exact k8 h)⟩
        · obtain rfl := Option.some.inj ho
          have d1 := k1 (hall ⟨1, .data⟩ (by simp) rfl)
          refine g_call 36 _ _ [.int .i64 (b)] (kf36 _ _) (by show ([v 1] : List Value) = _; rw [d1]; (try rfl)) ((rof_any b wx ib).mono ?_)
          rintro e w' ⟨u_, rfl, hp, hb⟩
          exact ⟨_, rfl, hC.trans (hb.mono hnw), keepE (by decide) k0, keepE (by decide) k1, (fun _ => by rw [setV_self]; exact hp), keepE (by decide) k3, keepE (by decide) k4, (fun h => by rw [setB_other _ _ _ (by decide)] at h; rw [setV_other _ _ _ _ (by decide)]; exact (k5 h).below hb), (fun h => by rw [setB_other _ _ _ (by decide)] at h; rw [setV_other _ _ _ _ (by decide)]; exact (k6 h).below hb), (fun h => by rw [setB_other _ _ _ (by decide)] at h; obtain ⟨p', f1, f2, f4, f3, f5⟩ := k7 h; refine ⟨p', by rw [setV_other _ _ _ _ (by decide)]; exact f1, Nat.lt_of_lt_of_le f2 hb.size, f4, fun h5 => ?_, fun h5 => ?_⟩ <;> rw [setB_other _ _ _ (by decide)] at h5 <;> first | exact (f3 h5).below hb f2 | exact (f5 h5).below hb), (fun h => by rw [setB_other _ _ _ (by decide)] at h ⊢; exact k8 h)⟩
        · obtain rfl := Option.some.inj ho
          refine g_fa 28 _ (w1.heap.size) 0 2 2 rfl (faRs2 _ _ 0) ?_
          exact ⟨hC, keepE (by decide) k0, keepE (by decide) k1, (fun h => by rw [setB_other _ _ _ (by decide)] at h; rw [setV_other _ _ _ _ (by decide)]; exact k2 h), newE rfl, keepE (by decide) k4, (fun h => by rw [setB_other _ _ _ (by decide)] at h; rw [setV_other _ _ _ _ (by decide)]; exact k5 h), (fun h => by rw [setB_other _ _ _ (by decide)] at h; rw [setV_other _ _ _ _ (by decide)]; exact k6 h), (fun h => by rw [setB_other _ _ _ (by decide)] at h; obtain ⟨p', f1, f2, f4, f3, f5⟩ := k7 h; refine ⟨p', by rw [setV_other _ _ _ _ (by decide)]; exact f1, f2, f4, fun h5 => ?_, fun h5 => ?_⟩ <;> rw [setB_other _ _ _ (by decide)] at h5 <;> first | exact f3 h5 | exact f5 h5), (fun h => by rw [setB_other _ _ _ (by decide)] at h ⊢; exact k8 h)⟩
        · obtain rfl := Option.some.inj ho
          have d3 := k3 (hall ⟨3, .data⟩ (by simp) rfl)
          refine g_cell2 _ (w1.heap.size) 2 (smc (p) (e) (c)) 28 _ (show v 3 = _ from d3) (b_l.below hC b_l.lt) (rfl) ?_
          exact ⟨hC, keepE (by decide) k0, keepE (by decide) k1, (fun h => by rw [setB_other _ _ _ (by decide)] at h; rw [setV_other _ _ _ _ (by decide)]; exact k2 h), keepE (by decide) k3, newE rfl, (fun h => by rw [setB_other _ _ _ (by decide)] at h; rw [setV_other _ _ _ _ (by decide)]; exact k5 h), (fun h => by rw [setB_other _ _ _ (by decide)] at h; rw [setV_other _ _ _ _ (by decide)]; exact k6 h), (fun h => by rw [setB_other _ _ _ (by decide)] at h; obtain ⟨p', f1, f2, f4, f3, f5⟩ := k7 h; refine ⟨p', by rw [setV_other _ _ _ _ (by decide)]; exact f1, f2, f4, fun h5 => ?_, fun h5 => ?_⟩ <;> rw [setB_other _ _ _ (by decide)] at h5 <;> first | exact f3 h5 | exact f5 h5), (fun h => by rw [setB_other _ _ _ (by decide)] at h ⊢; exact k8 h)⟩
        · obtain rfl := Option.some.inj ho
          have d4 := k4 (hall ⟨4, .data⟩ (by simp) rfl)
          refine g_call 36 _ _ [.int .i64 (c)] (kf36 _ _) (by show ([v 4] : List Value) = _; rw [d4]; (try rfl)) ((rof_any c wx ic).mono ?_)
          rintro e w' ⟨u_, rfl, hp, hb⟩
          exact ⟨_, rfl, hC.trans (hb.mono hnw), keepE (by decide) k0, keepE (by decide) k1, (fun h => by rw [setB_other _ _ _ (by decide)] at h; rw [setV_other _ _ _ _ (by decide)]; exact (k2 h).below hb), keepE (by decide) k3, keepE (by decide) k4, (fun _ => by rw [setV_self]; exact hp), (fun h => by rw [setB_other _ _ _ (by decide)] at h; rw [setV_other _ _ _ _ (by decide)]; exact (k6 h).below hb), (fun h => by rw [setB_other _ _ _ (by decide)] at h; obtain ⟨p', f1, f2, f4, f3, f5⟩ := k7 h; refine ⟨p', by rw [setV_other _ _ _ _ (by decide)]; exact f1, Nat.lt_of_lt_of_le f2 hb.size, f4, fun h5 => ?_, fun h5 => ?_⟩ <;> rw [setB_other _ _ _ (by decide)] at h5 <;> first | exact (f3 h5).below hb f2 | exact (f5 h5).below hb), (fun h => by rw [setB_other _ _ _ (by decide)] at h ⊢; exact k8 h)⟩
        · obtain rfl := Option.some.inj ho
          have d2 := k2 (hall ⟨2, .data⟩ (by simp) rfl)
          have d5 := k5 (hall ⟨5, .data⟩ (by simp) rfl)
          refine g_call 33 _ _ [v 2, v 5] (kf33 _ _) (rfl) ((radd_any _ _ b c T wx d2 d5 fb fc hT).mono ?_)
          rintro e w' ⟨u_, rfl, hp, hb⟩
          exact ⟨_, rfl, hC.trans (hb.mono hnw), keepE (by decide) k0, keepE (by decide) k1, (fun h => by rw [setB_other _ _ _ (by decide)] at h; rw [setV_other _ _ _ _ (by decide)]; exact (k2 h).below hb), keepE (by decide) k3, keepE (by decide) k4, (fun h => by rw [setB_other _ _ _ (by decide)] at h; rw [setV_other _ _ _ _ (by decide)]; exact (k5 h).below hb), (fun _ => by rw [setV_self]; exact hp), (fun h => by rw [setB_other _ _ _ (by decide)] at h; obtain ⟨p', f1, f2, f4, f3, f5⟩ := k7 h; refine ⟨p', by rw [setV_other _ _ _ _ (by decide)]; exact f1, Nat.lt_of_lt_of_le f2 hb.size, f4, fun h5 => ?_, fun h5 => ?_⟩ <;> rw [setB_other _ _ _ (by decide)] at h5 <;> first | exact (f3 h5).below hb f2 | exact (f5 h5).below hb), (fun h => by rw [setB_other _ _ _ (by decide)] at h ⊢; exact k8 h)⟩
        · obtain rfl := Option.some.inj ho
          refine g_alloc 72 _ zeroR (fun w' h1 h2 => ?_)
          exact ⟨h1.below hC hnw, keepE (by decide) k0, keepE (by decide) k1, (fun h => by rw [setB_other _ _ _ (by decide)] at h; rw [setV_other _ _ _ _ (by decide)]; exact (k2 h).below h1.toBelow), keepE (by decide) k3, keepE (by decide) k4, (fun h => by rw [setB_other _ _ _ (by decide)] at h; rw [setV_other _ _ _ _ (by decide)]; exact (k5 h).below h1.toBelow), (fun h => by rw [setB_other _ _ _ (by decide)] at h; rw [setV_other _ _ _ _ (by decide)]; exact (k6 h).below h1.toBelow), (fun _ => ⟨wx.heap.size, setV_self _ _ _, h2.lt, hC.size, fun _ => h2, fun h => by rw [setB_other _ _ _ (by decide)] at h; have := k8 h; rw [hti] at this; cases this⟩), (fun _ => setB_self _ _)⟩
        · obtain rfl := Option.some.inj ho
          have ht_ := hall ⟨7, .data⟩ (by simp) rfl
          obtain ⟨p, e1, e2, e4, e3, e5⟩ := k7 ht_
          have hold := e3 hti
          have hlo : w5.heap.size ≤ p := Nat.le_trans hB0 e4
          obtain ⟨s8, b8, e8, r8⟩ := k6 (hall ⟨6, .data⟩ (by simp) rfl)
          refine g_store_all 72 _ _ (p) [.bool s8, b8] _ 72 (show v 7 = _ from e1) (show v 6 = _ from e8) hold szR rfl (one_rc _ _ r8.sl) (fun w' h1 h2 => ?_)
          exact ⟨h1.below hC hlo, keepE (by decide) k0, keepE (by decide) k1, (fun h => by rw [setB_other _ _ _ (by decide)] at h; rw [setV_other _ _ _ _ (by decide)]; exact (k2 h).turn h1 hold (by decide)), keepE (by decide) k3, keepE (by decide) k4, (fun h => by rw [setB_other _ _ _ (by decide)] at h; rw [setV_other _ _ _ _ (by decide)]; exact (k5 h).turn h1 hold (by decide)), (fun h => by rw [setB_other _ _ _ (by decide)] at h; rw [setV_other _ _ _ _ (by decide)]; exact (k6 h).turn h1 hold (by decide)), (fun h => ⟨p, by rw [setV_other _ _ _ _ (by decide)]; exact e1, Nat.lt_of_lt_of_le e2 h1.size, e4, (fun h => by have := setB_self t 8; rw [h] at this; cases this), fun _ => ⟨_, _, h2, r8.turn h1 hold (by decide)⟩⟩), (fun _ => by rw [setB_other _ _ _ (by decide)]; exact ht_)⟩
        · simp at ho
      · simp only [full, Act.put, List.setIfInBounds_toArray, List.set_cons_succ, List.set_cons_zero, Nat.zero_add, Nat.reduceAdd]
        intro t v w6 hS ht
        obtain ⟨hC, k0, k1, k2, k3, k4, k5, k6, k7, k8⟩ := hS
        obtain ⟨p_y, e1_y, -, e4_y, -, e5_y⟩ := k7 (ht 7 (by decide))
        obtain ⟨s_y, v_y, b_y, r_y⟩ := e5_y (ht 8 (by decide))
        rw [e1_y]
        have d0 := k0 (ht 0 (by decide)); (try rw [d0])
        clear d0
        have d1 := k1 (ht 1 (by decide)); (try rw [d1])
        clear d1
        have d3 := k3 (ht 3 (by decide)); (try rw [d3])
        clear d3
        have d4 := k4 (ht 4 (by decide)); (try rw [d4])
        clear d4
        clear ht k0 k1 k2 k3 k4 k5 k6 k7 k8 e1_y e5_y lt_k lt_l lt_x
        generalize v 2 = y2_2
        generalize v 5 = y2_5
        generalize v 6 = y2_6
        generalize v 8 = y2_8
        have l_y : w.heap.size ≤ p_y := Nat.le_trans hB.size e4_y
        have o_y : p_x < p_y := Nat.lt_of_lt_of_le b_x.lt e4_y
        clear e4_y
        clear hB0
        replace r_x := r_x.below hC
        replace r_n18 := r_n18.below hC
        replace b_k := b_k.below hC b_k.lt
        replace b_l := b_l.below hC b_l.lt
        replace b_x := b_x.below hC b_x.lt
        replace hB := hB.trans (hC.mono hB.size)
        clear hC
        go_wp2_with (first
          | ((with_reducible refine stop_list 26 ?_); intro X9 hX9))
        refine hX9.out ?_
        clear hX9
        by_cases h0 : 0 ≤ b
        · by_cases h1 : 0 ≤ c
          · by_cases h2 : cmpI (-D) T ≤ 0
            · skip
              have hv9 : true = B := by
                rw [← hw9.out]
                unfold wth
                exact (decide_eq_true (by have e1 := hD.out; have e2 := hT.out; unfold cmpI at h2; split at h2 <;> (try split at h2) <;> omega)).symm
              subst hv9
              go_wp2_with (first
                | ((with_reducible refine at_loadD 27 2 ?_); refine L_cell2 _ (w.heap.size) 2 (smc (o) (d) (b)) 28 (.int .i64 (b)) rfl b_k (rfl) ?_)
                | ((with_reducible refine at_binD 28 ?_); refine L_give (by rfl) (g_igeq 2 _ _ .i64 _ _ true rfl rfl (decide_eq_true (by omega)) ?_))
                | ((with_reducible refine at_loadDG 31 ?_); refine L_give (by rfl) (g_cell2 _ (w1.heap.size) 2 (smc (p) (e) (c)) 28 (.int .i64 (c)) rfl b_l (rfl) ?_))
                | ((with_reducible refine at_binD 32 ?_); refine L_give (by rfl) (g_igeq 2 _ _ .i64 _ _ true rfl rfl (decide_eq_true (by omega)) ?_))
                | ((with_reducible refine at_loadDG 35 ?_); refine L_give (by rfl) (g_load_all 72 _ (p_x) ([.bool s_n18, v_n18]) 72 _ rfl b_x Tryd.underlying72 rfl (szR) ?_))
                | ((with_reducible refine at_loadDG 36 ?_); refine L_give (by rfl) (g_load_all 72 _ (p_y) ([.bool s_y, v_y]) 72 _ rfl b_y Tryd.underlying72 rfl (szR) ?_)))
              refine (rcmp_any _ _ (-D) T (cmpI (-D) T) w6 ⟨_, _, rfl, r_n18⟩ ⟨_, _, rfl, r_y⟩ fnD fT rfl).mono ?_
              rintro e w7 ⟨rfl, t_⟩
              replace r_x := r_x.below t_
              replace r_n18 := r_n18.below t_
              replace r_y := r_y.below t_
              replace b_k := b_k.below t_ b_k.lt
              replace b_l := b_l.below t_ b_l.lt
              replace b_x := b_x.below t_ b_x.lt
              replace b_y := b_y.below t_ b_y.lt
              replace hB := hB.trans (t_.mono hB.size)
              clear t_
              go_wp2_with (first
                | ((with_reducible refine at_binD 38 ?_); refine L_give (by rfl) (g_ileq 3 _ _ .i64 _ _ true rfl rfl (decide_eq_true (by omega)) ?_)))
              go_ret
              exact ⟨rfl, hB⟩
            · skip
              have hv9 : false = B := by
                rw [← hw9.out]
                unfold wth
                exact (decide_eq_false (by have e1 := hD.out; have e2 := hT.out; unfold cmpI at h2; split at h2 <;> (try split at h2) <;> omega)).symm
              subst hv9
              go_wp2_with (first
                | ((with_reducible refine at_loadD 27 2 ?_); refine L_cell2 _ (w.heap.size) 2 (smc (o) (d) (b)) 28 (.int .i64 (b)) rfl b_k (rfl) ?_)
                | ((with_reducible refine at_binD 28 ?_); refine L_give (by rfl) (g_igeq 2 _ _ .i64 _ _ true rfl rfl (decide_eq_true (by omega)) ?_))
                | ((with_reducible refine at_loadDG 31 ?_); refine L_give (by rfl) (g_cell2 _ (w1.heap.size) 2 (smc (p) (e) (c)) 28 (.int .i64 (c)) rfl b_l (rfl) ?_))
                | ((with_reducible refine at_binD 32 ?_); refine L_give (by rfl) (g_igeq 2 _ _ .i64 _ _ true rfl rfl (decide_eq_true (by omega)) ?_))
                | ((with_reducible refine at_loadDG 35 ?_); refine L_give (by rfl) (g_load_all 72 _ (p_x) ([.bool s_n18, v_n18]) 72 _ rfl b_x Tryd.underlying72 rfl (szR) ?_))
                | ((with_reducible refine at_loadDG 36 ?_); refine L_give (by rfl) (g_load_all 72 _ (p_y) ([.bool s_y, v_y]) 72 _ rfl b_y Tryd.underlying72 rfl (szR) ?_)))
              refine (rcmp_any _ _ (-D) T (cmpI (-D) T) w6 ⟨_, _, rfl, r_n18⟩ ⟨_, _, rfl, r_y⟩ fnD fT rfl).mono ?_
              rintro e w7 ⟨rfl, t_⟩
              replace r_x := r_x.below t_
              replace r_n18 := r_n18.below t_
              replace r_y := r_y.below t_
              replace b_k := b_k.below t_ b_k.lt
              replace b_l := b_l.below t_ b_l.lt
              replace b_x := b_x.below t_ b_x.lt
              replace b_y := b_y.below t_ b_y.lt
              replace hB := hB.trans (t_.mono hB.size)
              clear t_
              go_wp2_with (first
                | ((with_reducible refine at_binD 38 ?_); refine L_give (by rfl) (g_ileq 3 _ _ .i64 _ _ false rfl rfl (decide_eq_false (by omega)) ?_)))
              go_ret
              exact ⟨rfl, hB⟩
          · skip
            have hv9 : false = B := by
              rw [← hw9.out]
              unfold wth
              exact (decide_eq_false (by have e1 := hD.out; have e2 := hT.out; omega)).symm
            subst hv9
            go_wp2_with (first
              | ((with_reducible refine at_loadD 27 2 ?_); refine L_cell2 _ (w.heap.size) 2 (smc (o) (d) (b)) 28 (.int .i64 (b)) rfl b_k (rfl) ?_)
              | ((with_reducible refine at_binD 28 ?_); refine L_give (by rfl) (g_igeq 2 _ _ .i64 _ _ true rfl rfl (decide_eq_true (by omega)) ?_))
              | ((with_reducible refine at_loadDG 31 ?_); refine L_give (by rfl) (g_cell2 _ (w1.heap.size) 2 (smc (p) (e) (c)) 28 (.int .i64 (c)) rfl b_l (rfl) ?_))
              | ((with_reducible refine at_binD 32 ?_); refine L_give (by rfl) (g_igeq 2 _ _ .i64 _ _ false rfl rfl (decide_eq_false (by omega)) ?_)))
            go_ret
            exact ⟨rfl, hB⟩
        · skip
          have hv9 : false = B := by
            rw [← hw9.out]
            unfold wth
            exact (decide_eq_false (by have e1 := hD.out; have e2 := hT.out; omega)).symm
          subst hv9
          go_wp2_with (first
            | ((with_reducible refine at_loadD 27 2 ?_); refine L_cell2 _ (w.heap.size) 2 (smc (o) (d) (b)) 28 (.int .i64 (b)) rfl b_k (rfl) ?_)
            | ((with_reducible refine at_binD 28 ?_); refine L_give (by rfl) (g_igeq 2 _ _ .i64 _ _ false rfl rfl (decide_eq_false (by omega)) ?_)))
          go_ret
          exact ⟨rfl, hB⟩
    · rw [decide_eq_false hd] at hsg
      subst hsg
      go_wp2_with (first
        | ((with_reducible refine at_loadD 16 4 ?_); refine L_give (by rfl) (g_cell4 _ (p_x) 0 ([.bool false, v_x]) 72 (.bool false) rfl b_x (rfl) ?_))
        | ((with_reducible refine stop_region 4 ?_); intro X2 hX2))
      refine hX2.out ?_
      clear hX2
      have hB0 : w3.heap.size ≤ w3.heap.size := Nat.le_refl _
      have lt_k := b_k.lt
      have lt_l := b_l.lt
      have lt_x := b_x.lt
      refine wp_region_inv (by kernel_rfl) (by kernel_rfl) (fun t v wx => Below w3.heap.size w3 wx ∧ (t 0 = true → v 0 = .pointer (some ⟨w.heap.size, 2, none⟩)) ∧ (t 1 = true → v 1 = .int .i64 (b)) ∧ (t 2 = true → RN wx (v 2) (b)) ∧ (t 3 = true → v 3 = .pointer (some ⟨w1.heap.size, 2, none⟩)) ∧ (t 4 = true → v 4 = .int .i64 (c)) ∧ (t 5 = true → RN wx (v 5) (c)) ∧ (t 6 = true → RN wx (v 6) (T)) ∧ (t 7 = true → ∃ p, v 7 = .pointer (some ⟨p, 0, none⟩) ∧ p < wx.heap.size ∧ w3.heap.size ≤ p ∧ (t 8 = false → Blk wx p [.bool false, .slice none 0 0] 72) ∧ (t 8 = true → RA wx (p) (T))) ∧ (t 8 = true → t 7 = true)) ?_ ?_ ?_
      · exact ⟨(Below.refl _ _).drew, (fun h => by cases h), (fun h => by cases h), (fun h => by cases h), (fun h => by cases h), (fun h => by cases h), (fun h => by cases h), (fun h => by cases h), (fun h => by cases h), (fun h => by cases h)⟩
      · simp only [full, Act.put, List.setIfInBounds_toArray, List.set_cons_succ, List.set_cons_zero, Nat.zero_add, Nat.reduceAdd]
        intro i o ho t v wx hS hti hall
        obtain ⟨hC, k0, k1, k2, k3, k4, k5, k6, k7, k8⟩ := hS
        have hnw : w3.heap.size ≤ wx.heap.size := Nat.le_trans hB0 hC.size
        rcases i with _ | _ | _ | _ | _ | _ | _ | _ | _ | i
        · obtain rfl := Option.some.inj ho
          refine g_fa 28 _ (w.heap.size) 0 2 2 rfl (faRs2 _ _ 0) ?_
          exact ⟨hC, newE rfl, keepE (by decide) k1, (fun h => by rw [setB_other _ _ _ (by decide)] at h; rw [setV_other _ _ _ _ (by decide)]; exact k2 h), keepE (by decide) k3, keepE (by decide) k4, (fun h => by rw [setB_other _ _ _ (by decide)] at h; rw [setV_other _ _ _ _ (by decide)]; exact k5 h), (fun h => by rw [setB_other _ _ _ (by decide)] at h; rw [setV_other _ _ _ _ (by decide)]; exact k6 h), (fun h => by rw [setB_other _ _ _ (by decide)] at h; obtain ⟨p', f1, f2, f4, f3, f5⟩ := k7 h; refine ⟨p', by rw [setV_other _ _ _ _ (by decide)]; exact f1, f2, f4, fun h5 => ?_, fun h5 => ?_⟩ <;> rw [setB_other _ _ _ (by decide)] at h5 <;> first | exact f3 h5 | exact f5 h5), (fun h => by rw [setB_other _ _ _ (by decide)] at h ⊢; exact k8 h)⟩
        · obtain rfl := Option.some.inj ho
          have d0 := k0 (hall ⟨0, .data⟩ (by simp) rfl)
          refine g_cell2 _ (w.heap.size) 2 (smc (o) (d) (b)) 28 _ (show v 0 = _ from d0) (b_k.below hC b_k.lt) (rfl) ?_
          exact ⟨hC, keepE (by decide) k0, newE rfl, (fun h => by rw [setB_other _ _ _ (by decide)] at h; rw [setV_other _ _ _ _ (by decide)]; exact k2 h), keepE (by decide) k3, keepE (by decide) k4, (fun h => by rw [setB_other _ _ _ (by decide)] at h; rw [setV_other _ _ _ _ (by decide)]; exact k5 h), (fun h => by rw [setB_other _ _ _ (by decide)] at h; rw [setV_other _ _ _ _ (by decide)]; exact k6 h), (fun h => by rw [setB_other _ _ _ (by decide)] at h; obtain ⟨p', f1, f2, f4, f3, f5⟩ := k7 h; refine ⟨p', by rw [setV_other _ _ _ _ (by decide)]; exact f1, f2, f4, fun h5 => ?_, fun h5 => ?_⟩ <;> rw [setB_other _ _ _ (by decide)] at h5 <;> first | exact f3 h5 | exact f5 h5), (fun h => by rw [setB_other _ _ _ (by decide)] at h ⊢; exact k8 h)⟩
        · obtain rfl := Option.some.inj ho
          have d1 := k1 (hall ⟨1, .data⟩ (by simp) rfl)
          refine g_call 36 _ _ [.int .i64 (b)] (kf36 _ _) (by show ([v 1] : List Value) = _; rw [d1]; (try rfl)) ((rof_any b wx ib).mono ?_)
          rintro e w' ⟨u_, rfl, hp, hb⟩
          exact ⟨_, rfl, hC.trans (hb.mono hnw), keepE (by decide) k0, keepE (by decide) k1, (fun _ => by rw [setV_self]; exact hp), keepE (by decide) k3, keepE (by decide) k4, (fun h => by rw [setB_other _ _ _ (by decide)] at h; rw [setV_other _ _ _ _ (by decide)]; exact (k5 h).below hb), (fun h => by rw [setB_other _ _ _ (by decide)] at h; rw [setV_other _ _ _ _ (by decide)]; exact (k6 h).below hb), (fun h => by rw [setB_other _ _ _ (by decide)] at h; obtain ⟨p', f1, f2, f4, f3, f5⟩ := k7 h; refine ⟨p', by rw [setV_other _ _ _ _ (by decide)]; exact f1, Nat.lt_of_lt_of_le f2 hb.size, f4, fun h5 => ?_, fun h5 => ?_⟩ <;> rw [setB_other _ _ _ (by decide)] at h5 <;> first | exact (f3 h5).below hb f2 | exact (f5 h5).below hb), (fun h => by rw [setB_other _ _ _ (by decide)] at h ⊢; exact k8 h)⟩
        · obtain rfl := Option.some.inj ho
          refine g_fa 28 _ (w1.heap.size) 0 2 2 rfl (faRs2 _ _ 0) ?_
          exact ⟨hC, keepE (by decide) k0, keepE (by decide) k1, (fun h => by rw [setB_other _ _ _ (by decide)] at h; rw [setV_other _ _ _ _ (by decide)]; exact k2 h), newE rfl, keepE (by decide) k4, (fun h => by rw [setB_other _ _ _ (by decide)] at h; rw [setV_other _ _ _ _ (by decide)]; exact k5 h), (fun h => by rw [setB_other _ _ _ (by decide)] at h; rw [setV_other _ _ _ _ (by decide)]; exact k6 h), (fun h => by rw [setB_other _ _ _ (by decide)] at h; obtain ⟨p', f1, f2, f4, f3, f5⟩ := k7 h; refine ⟨p', by rw [setV_other _ _ _ _ (by decide)]; exact f1, f2, f4, fun h5 => ?_, fun h5 => ?_⟩ <;> rw [setB_other _ _ _ (by decide)] at h5 <;> first | exact f3 h5 | exact f5 h5), (fun h => by rw [setB_other _ _ _ (by decide)] at h ⊢; exact k8 h)⟩
        · obtain rfl := Option.some.inj ho
          have d3 := k3 (hall ⟨3, .data⟩ (by simp) rfl)
          refine g_cell2 _ (w1.heap.size) 2 (smc (p) (e) (c)) 28 _ (show v 3 = _ from d3) (b_l.below hC b_l.lt) (rfl) ?_
          exact ⟨hC, keepE (by decide) k0, keepE (by decide) k1, (fun h => by rw [setB_other _ _ _ (by decide)] at h; rw [setV_other _ _ _ _ (by decide)]; exact k2 h), keepE (by decide) k3, newE rfl, (fun h => by rw [setB_other _ _ _ (by decide)] at h; rw [setV_other _ _ _ _ (by decide)]; exact k5 h), (fun h => by rw [setB_other _ _ _ (by decide)] at h; rw [setV_other _ _ _ _ (by decide)]; exact k6 h), (fun h => by rw [setB_other _ _ _ (by decide)] at h; obtain ⟨p', f1, f2, f4, f3, f5⟩ := k7 h; refine ⟨p', by rw [setV_other _ _ _ _ (by decide)]; exact f1, f2, f4, fun h5 => ?_, fun h5 => ?_⟩ <;> rw [setB_other _ _ _ (by decide)] at h5 <;> first | exact f3 h5 | exact f5 h5), (fun h => by rw [setB_other _ _ _ (by decide)] at h ⊢; exact k8 h)⟩
        · obtain rfl := Option.some.inj ho
          have d4 := k4 (hall ⟨4, .data⟩ (by simp) rfl)
          refine g_call 36 _ _ [.int .i64 (c)] (kf36 _ _) (by show ([v 4] : List Value) = _; rw [d4]; (try rfl)) ((rof_any c wx ic).mono ?_)
          rintro e w' ⟨u_, rfl, hp, hb⟩
          exact ⟨_, rfl, hC.trans (hb.mono hnw), keepE (by decide) k0, keepE (by decide) k1, (fun h => by rw [setB_other _ _ _ (by decide)] at h; rw [setV_other _ _ _ _ (by decide)]; exact (k2 h).below hb), keepE (by decide) k3, keepE (by decide) k4, (fun _ => by rw [setV_self]; exact hp), (fun h => by rw [setB_other _ _ _ (by decide)] at h; rw [setV_other _ _ _ _ (by decide)]; exact (k6 h).below hb), (fun h => by rw [setB_other _ _ _ (by decide)] at h; obtain ⟨p', f1, f2, f4, f3, f5⟩ := k7 h; refine ⟨p', by rw [setV_other _ _ _ _ (by decide)]; exact f1, Nat.lt_of_lt_of_le f2 hb.size, f4, fun h5 => ?_, fun h5 => ?_⟩ <;> rw [setB_other _ _ _ (by decide)] at h5 <;> first | exact (f3 h5).below hb f2 | exact (f5 h5).below hb), (fun h => by rw [setB_other _ _ _ (by decide)] at h ⊢; exact k8 h)⟩
        · obtain rfl := Option.some.inj ho
          have d2 := k2 (hall ⟨2, .data⟩ (by simp) rfl)
          have d5 := k5 (hall ⟨5, .data⟩ (by simp) rfl)
          refine g_call 33 _ _ [v 2, v 5] (kf33 _ _) (rfl) ((radd_any _ _ b c T wx d2 d5 fb fc hT).mono ?_)
          rintro e w' ⟨u_, rfl, hp, hb⟩
          exact ⟨_, rfl, hC.trans (hb.mono hnw), keepE (by decide) k0, keepE (by decide) k1, (fun h => by rw [setB_other _ _ _ (by decide)] at h; rw [setV_other _ _ _ _ (by decide)]; exact (k2 h).below hb), keepE (by decide) k3, keepE (by decide) k4, (fun h => by rw [setB_other _ _ _ (by decide)] at h; rw [setV_other _ _ _ _ (by decide)]; exact (k5 h).below hb), (fun _ => by rw [setV_self]; exact hp), (fun h => by rw [setB_other _ _ _ (by decide)] at h; obtain ⟨p', f1, f2, f4, f3, f5⟩ := k7 h; refine ⟨p', by rw [setV_other _ _ _ _ (by decide)]; exact f1, Nat.lt_of_lt_of_le f2 hb.size, f4, fun h5 => ?_, fun h5 => ?_⟩ <;> rw [setB_other _ _ _ (by decide)] at h5 <;> first | exact (f3 h5).below hb f2 | exact (f5 h5).below hb), (fun h => by rw [setB_other _ _ _ (by decide)] at h ⊢; exact k8 h)⟩
        · obtain rfl := Option.some.inj ho
          refine g_alloc 72 _ zeroR (fun w' h1 h2 => ?_)
          exact ⟨h1.below hC hnw, keepE (by decide) k0, keepE (by decide) k1, (fun h => by rw [setB_other _ _ _ (by decide)] at h; rw [setV_other _ _ _ _ (by decide)]; exact (k2 h).below h1.toBelow), keepE (by decide) k3, keepE (by decide) k4, (fun h => by rw [setB_other _ _ _ (by decide)] at h; rw [setV_other _ _ _ _ (by decide)]; exact (k5 h).below h1.toBelow), (fun h => by rw [setB_other _ _ _ (by decide)] at h; rw [setV_other _ _ _ _ (by decide)]; exact (k6 h).below h1.toBelow), (fun _ => ⟨wx.heap.size, setV_self _ _ _, h2.lt, hC.size, fun _ => h2, fun h => by rw [setB_other _ _ _ (by decide)] at h; have := k8 h; rw [hti] at this; cases this⟩), (fun _ => setB_self _ _)⟩
        · obtain rfl := Option.some.inj ho
          have ht_ := hall ⟨7, .data⟩ (by simp) rfl
          obtain ⟨p, e1, e2, e4, e3, e5⟩ := k7 ht_
          have hold := e3 hti
          have hlo : w3.heap.size ≤ p := Nat.le_trans hB0 e4
          obtain ⟨s8, b8, e8, r8⟩ := k6 (hall ⟨6, .data⟩ (by simp) rfl)
          refine g_store_all 72 _ _ (p) [.bool s8, b8] _ 72 (show v 7 = _ from e1) (show v 6 = _ from e8) hold szR rfl (one_rc _ _ r8.sl) (fun w' h1 h2 => ?_)
          exact ⟨h1.below hC hlo, keepE (by decide) k0, keepE (by decide) k1, (fun h => by rw [setB_other _ _ _ (by decide)] at h; rw [setV_other _ _ _ _ (by decide)]; exact (k2 h).turn h1 hold (by decide)), keepE (by decide) k3, keepE (by decide) k4, (fun h => by rw [setB_other _ _ _ (by decide)] at h; rw [setV_other _ _ _ _ (by decide)]; exact (k5 h).turn h1 hold (by decide)), (fun h => by rw [setB_other _ _ _ (by decide)] at h; rw [setV_other _ _ _ _ (by decide)]; exact (k6 h).turn h1 hold (by decide)), (fun h => ⟨p, by rw [setV_other _ _ _ _ (by decide)]; exact e1, Nat.lt_of_lt_of_le e2 h1.size, e4, (fun h => by have := setB_self t 8; rw [h] at this; cases this), fun _ => ⟨_, _, h2, r8.turn h1 hold (by decide)⟩⟩), (fun _ => by rw [setB_other _ _ _ (by decide)]; exact ht_)⟩
        · simp at ho
      · simp only [full, Act.put, List.setIfInBounds_toArray, List.set_cons_succ, List.set_cons_zero, Nat.zero_add, Nat.reduceAdd]
        intro t v w4 hS ht
        obtain ⟨hC, k0, k1, k2, k3, k4, k5, k6, k7, k8⟩ := hS
        obtain ⟨p_y, e1_y, -, e4_y, -, e5_y⟩ := k7 (ht 7 (by decide))
        obtain ⟨s_y, v_y, b_y, r_y⟩ := e5_y (ht 8 (by decide))
        rw [e1_y]
        have d0 := k0 (ht 0 (by decide)); (try rw [d0])
        clear d0
        have d1 := k1 (ht 1 (by decide)); (try rw [d1])
        clear d1
        have d3 := k3 (ht 3 (by decide)); (try rw [d3])
        clear d3
        have d4 := k4 (ht 4 (by decide)); (try rw [d4])
        clear d4
        clear ht k0 k1 k2 k3 k4 k5 k6 k7 k8 e1_y e5_y lt_k lt_l lt_x
        generalize v 2 = y2_2
        generalize v 5 = y2_5
        generalize v 6 = y2_6
        generalize v 8 = y2_8
        have l_y : w.heap.size ≤ p_y := Nat.le_trans hB.size e4_y
        have o_y : p_x < p_y := Nat.lt_of_lt_of_le b_x.lt e4_y
        clear e4_y
        clear hB0
        replace r_x := r_x.below hC
        replace b_k := b_k.below hC b_k.lt
        replace b_l := b_l.below hC b_l.lt
        replace b_x := b_x.below hC b_x.lt
        replace hB := hB.trans (hC.mono hB.size)
        clear hC
        go_wp2_with (first
          | ((with_reducible refine stop_list 26 ?_); intro X9 hX9))
        refine hX9.out ?_
        clear hX9
        by_cases h0 : 0 ≤ b
        · by_cases h1 : 0 ≤ c
          · by_cases h2 : cmpI (D) T ≤ 0
            · skip
              have hv9 : true = B := by
                rw [← hw9.out]
                unfold wth
                exact (decide_eq_true (by have e1 := hD.out; have e2 := hT.out; unfold cmpI at h2; split at h2 <;> (try split at h2) <;> omega)).symm
              subst hv9
              go_wp2_with (first
                | ((with_reducible refine at_loadD 27 2 ?_); refine L_cell2 _ (w.heap.size) 2 (smc (o) (d) (b)) 28 (.int .i64 (b)) rfl b_k (rfl) ?_)
                | ((with_reducible refine at_binD 28 ?_); refine L_give (by rfl) (g_igeq 2 _ _ .i64 _ _ true rfl rfl (decide_eq_true (by omega)) ?_))
                | ((with_reducible refine at_loadDG 31 ?_); refine L_give (by rfl) (g_cell2 _ (w1.heap.size) 2 (smc (p) (e) (c)) 28 (.int .i64 (c)) rfl b_l (rfl) ?_))
                | ((with_reducible refine at_binD 32 ?_); refine L_give (by rfl) (g_igeq 2 _ _ .i64 _ _ true rfl rfl (decide_eq_true (by omega)) ?_))
                | ((with_reducible refine at_loadDG 35 ?_); refine L_give (by rfl) (g_load_all 72 _ (p_x) ([.bool false, v_x]) 72 _ rfl b_x Tryd.underlying72 rfl (szR) ?_))
                | ((with_reducible refine at_loadDG 36 ?_); refine L_give (by rfl) (g_load_all 72 _ (p_y) ([.bool s_y, v_y]) 72 _ rfl b_y Tryd.underlying72 rfl (szR) ?_)))
              refine (rcmp_any _ _ (D) T (cmpI (D) T) w4 ⟨_, _, rfl, r_x⟩ ⟨_, _, rfl, r_y⟩ fD fT rfl).mono ?_
              rintro e w5 ⟨rfl, t_⟩
              replace r_x := r_x.below t_
              replace r_y := r_y.below t_
              replace b_k := b_k.below t_ b_k.lt
              replace b_l := b_l.below t_ b_l.lt
              replace b_x := b_x.below t_ b_x.lt
              replace b_y := b_y.below t_ b_y.lt
              replace hB := hB.trans (t_.mono hB.size)
              clear t_
              go_wp2_with (first
                | ((with_reducible refine at_binD 38 ?_); refine L_give (by rfl) (g_ileq 3 _ _ .i64 _ _ true rfl rfl (decide_eq_true (by omega)) ?_)))
              go_ret
              exact ⟨rfl, hB⟩
            · skip
              have hv9 : false = B := by
                rw [← hw9.out]
                unfold wth
                exact (decide_eq_false (by have e1 := hD.out; have e2 := hT.out; unfold cmpI at h2; split at h2 <;> (try split at h2) <;> omega)).symm
              subst hv9
              go_wp2_with (first
                | ((with_reducible refine at_loadD 27 2 ?_); refine L_cell2 _ (w.heap.size) 2 (smc (o) (d) (b)) 28 (.int .i64 (b)) rfl b_k (rfl) ?_)
                | ((with_reducible refine at_binD 28 ?_); refine L_give (by rfl) (g_igeq 2 _ _ .i64 _ _ true rfl rfl (decide_eq_true (by omega)) ?_))
                | ((with_reducible refine at_loadDG 31 ?_); refine L_give (by rfl) (g_cell2 _ (w1.heap.size) 2 (smc (p) (e) (c)) 28 (.int .i64 (c)) rfl b_l (rfl) ?_))
                | ((with_reducible refine at_binD 32 ?_); refine L_give (by rfl) (g_igeq 2 _ _ .i64 _ _ true rfl rfl (decide_eq_true (by omega)) ?_))
                | ((with_reducible refine at_loadDG 35 ?_); refine L_give (by rfl) (g_load_all 72 _ (p_x) ([.bool false, v_x]) 72 _ rfl b_x Tryd.underlying72 rfl (szR) ?_))
                | ((with_reducible refine at_loadDG 36 ?_); refine L_give (by rfl) (g_load_all 72 _ (p_y) ([.bool s_y, v_y]) 72 _ rfl b_y Tryd.underlying72 rfl (szR) ?_)))
              refine (rcmp_any _ _ (D) T (cmpI (D) T) w4 ⟨_, _, rfl, r_x⟩ ⟨_, _, rfl, r_y⟩ fD fT rfl).mono ?_
              rintro e w5 ⟨rfl, t_⟩
              replace r_x := r_x.below t_
              replace r_y := r_y.below t_
              replace b_k := b_k.below t_ b_k.lt
              replace b_l := b_l.below t_ b_l.lt
              replace b_x := b_x.below t_ b_x.lt
              replace b_y := b_y.below t_ b_y.lt
              replace hB := hB.trans (t_.mono hB.size)
              clear t_
              go_wp2_with (first
                | ((with_reducible refine at_binD 38 ?_); refine L_give (by rfl) (g_ileq 3 _ _ .i64 _ _ false rfl rfl (decide_eq_false (by omega)) ?_)))
              go_ret
              exact ⟨rfl, hB⟩
          · skip
            have hv9 : false = B := by
              rw [← hw9.out]
              unfold wth
              exact (decide_eq_false (by have e1 := hD.out; have e2 := hT.out; omega)).symm
            subst hv9
            go_wp2_with (first
              | ((with_reducible refine at_loadD 27 2 ?_); refine L_cell2 _ (w.heap.size) 2 (smc (o) (d) (b)) 28 (.int .i64 (b)) rfl b_k (rfl) ?_)
              | ((with_reducible refine at_binD 28 ?_); refine L_give (by rfl) (g_igeq 2 _ _ .i64 _ _ true rfl rfl (decide_eq_true (by omega)) ?_))
              | ((with_reducible refine at_loadDG 31 ?_); refine L_give (by rfl) (g_cell2 _ (w1.heap.size) 2 (smc (p) (e) (c)) 28 (.int .i64 (c)) rfl b_l (rfl) ?_))
              | ((with_reducible refine at_binD 32 ?_); refine L_give (by rfl) (g_igeq 2 _ _ .i64 _ _ false rfl rfl (decide_eq_false (by omega)) ?_)))
            go_ret
            exact ⟨rfl, hB⟩
        · skip
          have hv9 : false = B := by
            rw [← hw9.out]
            unfold wth
            exact (decide_eq_false (by have e1 := hD.out; have e2 := hT.out; omega)).symm
          subst hv9
          go_wp2_with (first
            | ((with_reducible refine at_loadD 27 2 ?_); refine L_cell2 _ (w.heap.size) 2 (smc (o) (d) (b)) 28 (.int .i64 (b)) rfl b_k (rfl) ?_)
            | ((with_reducible refine at_binD 28 ?_); refine L_give (by rfl) (g_igeq 2 _ _ .i64 _ _ false rfl rfl (decide_eq_false (by omega)) ?_)))
          go_ret
          exact ⟨rfl, hB⟩

theorem vwith_any (o d b p e c : Int) (w : World) (io : In64 o) (ib : In64 b) (ip : In64 p) (ic : In64 c) (B : Bool) (h : Shut (wth o b p c = B)) :
    Calls Tryd.prog 14 #[.agg (smc (o) (d) (b)).toArray, .agg (smc (p) (e) (c)).toArray] w fun e w' => e = .returned (.bool B) ∧ Below w.heap.size w w' := by
  have h := h.out
  have k1 := io
  have k2 := ib
  have k3 := ip
  have k4 := ic
  unfold In64 at k1 k2 k3 k4
  exact vwith_l o d b p e c _ _ B h w io ip ib ic rfl rfl (few64 o io) (few64 p ip) (few128 _ (by omega)) (few128 _ (by omega)) (few128 _ (by omega)) (few64 b ib) (few64 c ic) (few128 _ (by omega))
end Go.Proofs.YtpenicjlpiechaaDoor.Wd
