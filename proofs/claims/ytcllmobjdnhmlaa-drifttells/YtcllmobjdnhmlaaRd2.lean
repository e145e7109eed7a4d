/- What the reference's Read, Turn and Step answer, at all clocks and numbers of 64 bits; nothing that was there is changed. -/
import Derived.Test.YtcllmobjdnhmlaaRd1
namespace Go.Proofs.Ytcllmobjdnhmlaa
open Go Go.RowKit
set_option linter.unusedVariables false

set_option maxRecDepth 10000 in
set_option maxHeartbeats 4000000 in
theorem rread_lt (f s r T : Int) (w : World) (hf : In64 f) (hs : In64 s) (hr : In64 r) (ht : In64 T) (hl : T < f) :
    Calls Try.prog 12 #[.agg (cl f s r).toArray, .int .i64 T] w fun e w' => e = .returned (.tuple #[.int .i64 (0), .int .i64 (1)]) ∧ Below w.heap.size w w' := by
  go_enter Try.func12, Try.ntmps12
  go_wp2_with (first
    | ((with_reducible refine at_boxD 2 25 ?_); refine L_box 25 _ (cl (f) (s) (r)) rfl ?_; intro w1 t_ b_c; have l_c : w.heap.size ≤ w.heap.size := Nat.le_refl _; have hB : Below w.heap.size w w1 := t_.below (Below.refl _ _) (Nat.le_refl _); clear t_)
    | ((with_reducible refine at_loadD 8 2 ?_); refine L_cell2 _ (w.heap.size) 0 (cl (f) (s) (r)) 25 (.int .i64 (f)) rfl b_c (rfl) ?_)
    | ((with_reducible refine at_binD 9 ?_); refine L_give (by rfl) (g_ilss 2 _ _ .i64 _ _ true rfl rfl (decide_eq_true hl) ?_)))
  go_ret2
  exact ⟨rfl, hB⟩

set_option maxRecDepth 10000 in
set_option maxHeartbeats 4000000 in
theorem rread_far (f s r T n : Int) (w : World) (hf : In64 f) (hs : In64 s) (hr : In64 r) (ht : In64 T) (hl : ¬ T < f) (ff : Few f 200) (ft : Few T 200) (fnf : Few (-f) 200) (fn : Few n 200) (hn : Hid (T + -f = n)) (hfi : Hid (decide (-((2 : Int) ^ 63) ≤ n ∧ n < (2 : Int) ^ 63) = false)) :
    Calls Try.prog 12 #[.agg (cl f s r).toArray, .int .i64 T] w fun e w' => e = .returned (.tuple #[.int .i64 (0), .int .i64 (6)]) ∧ Below w.heap.size w w' := by
  go_enter Try.func12, Try.ntmps12
  go_wp2_with (first
    | ((with_reducible refine at_boxD 2 25 ?_); refine L_box 25 _ (cl (f) (s) (r)) rfl ?_; intro w1 t_ b_c; have l_c : w.heap.size ≤ w.heap.size := Nat.le_refl _; have hB : Below w.heap.size w w1 := t_.below (Below.refl _ _) (Nat.le_refl _); clear t_)
    | ((with_reducible refine at_loadD 8 2 ?_); refine L_cell2 _ (w.heap.size) 0 (cl (f) (s) (r)) 25 (.int .i64 (f)) rfl b_c (rfl) ?_)
    | ((with_reducible refine at_binD 9 ?_); refine L_give (by rfl) (g_ilss 2 _ _ .i64 _ _ false rfl rfl (decide_eq_false hl) ?_))
    | ((with_reducible refine stop_region 3 ?_); intro X1 hX1))
  refine hX1.out ?_
  clear hX1
  have hB0 : w1.heap.size ≤ w1.heap.size := Nat.le_refl _
  have lt_c := b_c.lt
  refine wp_region_inv (by kernel_rfl) (by kernel_rfl) (fun t v wx => Below w1.heap.size w1 wx ∧ (t 0 = true → v 0 = .int .i64 (T)) ∧ (t 1 = true → RN wx (v 1) (T)) ∧ (t 2 = true → v 2 = .pointer (some ⟨w.heap.size, 0, none⟩)) ∧ (t 3 = true → v 3 = .int .i64 (f)) ∧ (t 4 = true → RN wx (v 4) (f)) ∧ (t 5 = true → RN wx (v 5) (-f)) ∧ (t 6 = true → RN wx (v 6) (n)) ∧ (t 7 = true → v 7 = .bool false) ∧ (t 8 = true → v 8 = .bool true)) ?_ ?_ ?_
  · exact ⟨(Below.refl _ _).drew, (fun h => by cases h), (fun h => by cases h), (fun h => by cases h), (fun h => by cases h), (fun h => by cases h), (fun h => by cases h), (fun h => by cases h), (fun h => by cases h), (fun h => by cases h)⟩
  · simp only [full, Act.put, List.setIfInBounds_toArray, List.set_cons_succ, List.set_cons_zero, Nat.zero_add, Nat.reduceAdd]
    intro i o ho t v wx hS hti hall
    obtain ⟨hC, k0, k1, k2, k3, k4, k5, k6, k7, k8⟩ := hS
    have hnw : w1.heap.size ≤ wx.heap.size := Nat.le_trans hB0 hC.size
    rcases i with _ | _ | _ | _ | _ | _ | _ | _ | _ | i
    · obtain rfl := Option.some.inj ho
      refine g_move _ _ rfl ?_
      exact ⟨hC, newE rfl, (fun h => by rw [setB_other _ _ _ (by decide)] at h; rw [setV_other _ _ _ _ (by decide)]; exact k1 h), keepE (by decide) k2, keepE (by decide) k3, (fun h => by rw [setB_other _ _ _ (by decide)] at h; rw [setV_other _ _ _ _ (by decide)]; exact k4 h), (fun h => by rw [setB_other _ _ _ (by decide)] at h; rw [setV_other _ _ _ _ (by decide)]; exact k5 h), (fun h => by rw [setB_other _ _ _ (by decide)] at h; rw [setV_other _ _ _ _ (by decide)]; exact k6 h), keepE (by decide) k7, keepE (by decide) k8⟩
    · obtain rfl := Option.some.inj ho
      have d0 := k0 (hall ⟨0, .data⟩ (by simp) rfl)
      refine g_call 26 _ _ [.int .i64 (T)] (kf26 _ _) (by show ([v 0] : List Value) = _; rw [d0]; (try rfl)) ((rof_any T wx ht).mono ?_)
      rintro e w' ⟨u_, rfl, hp, hb⟩
      exact ⟨_, rfl, hC.trans (hb.mono hnw), keepE (by decide) k0, (fun _ => by rw [setV_self]; exact hp), keepE (by decide) k2, keepE (by decide) k3, (fun h => by rw [setB_other _ _ _ (by decide)] at h; rw [setV_other _ _ _ _ (by decide)]; exact (k4 h).below hb), (fun h => by rw [setB_other _ _ _ (by decide)] at h; rw [setV_other _ _ _ _ (by decide)]; exact (k5 h).below hb), (fun h => by rw [setB_other _ _ _ (by decide)] at h; rw [setV_other _ _ _ _ (by decide)]; exact (k6 h).below hb), keepE (by decide) k7, keepE (by decide) k8⟩
    · obtain rfl := Option.some.inj ho
      refine g_fK0 _ _ rfl ?_
      exact ⟨hC, keepE (by decide) k0, (fun h => by rw [setB_other _ _ _ (by decide)] at h; rw [setV_other _ _ _ _ (by decide)]; exact k1 h), newE rfl, keepE (by decide) k3, (fun h => by rw [setB_other _ _ _ (by decide)] at h; rw [setV_other _ _ _ _ (by decide)]; exact k4 h), (fun h => by rw [setB_other _ _ _ (by decide)] at h; rw [setV_other _ _ _ _ (by decide)]; exact k5 h), (fun h => by rw [setB_other _ _ _ (by decide)] at h; rw [setV_other _ _ _ _ (by decide)]; exact k6 h), keepE (by decide) k7, keepE (by decide) k8⟩
    · obtain rfl := Option.some.inj ho
      have d2 := k2 (hall ⟨2, .data⟩ (by simp) rfl)
      refine g_cell2 _ (w.heap.size) 0 (cl (f) (s) (r)) 25 _ (show v 2 = _ from d2) (b_c.below hC b_c.lt) (rfl) ?_
      exact ⟨hC, keepE (by decide) k0, (fun h => by rw [setB_other _ _ _ (by decide)] at h; rw [setV_other _ _ _ _ (by decide)]; exact k1 h), keepE (by decide) k2, newE rfl, (fun h => by rw [setB_other _ _ _ (by decide)] at h; rw [setV_other _ _ _ _ (by decide)]; exact k4 h), (fun h => by rw [setB_other _ _ _ (by decide)] at h; rw [setV_other _ _ _ _ (by decide)]; exact k5 h), (fun h => by rw [setB_other _ _ _ (by decide)] at h; rw [setV_other _ _ _ _ (by decide)]; exact k6 h), keepE (by decide) k7, keepE (by decide) k8⟩
    · obtain rfl := Option.some.inj ho
      have d3 := k3 (hall ⟨3, .data⟩ (by simp) rfl)
      refine g_call 26 _ _ [.int .i64 (f)] (kf26 _ _) (by show ([v 3] : List Value) = _; rw [d3]; (try rfl)) ((rof_any f wx hf).mono ?_)
      rintro e w' ⟨u_, rfl, hp, hb⟩
      exact ⟨_, rfl, hC.trans (hb.mono hnw), keepE (by decide) k0, (fun h => by rw [setB_other _ _ _ (by decide)] at h; rw [setV_other _ _ _ _ (by decide)]; exact (k1 h).below hb), keepE (by decide) k2, keepE (by decide) k3, (fun _ => by rw [setV_self]; exact hp), (fun h => by rw [setB_other _ _ _ (by decide)] at h; rw [setV_other _ _ _ _ (by decide)]; exact (k5 h).below hb), (fun h => by rw [setB_other _ _ _ (by decide)] at h; rw [setV_other _ _ _ _ (by decide)]; exact (k6 h).below hb), keepE (by decide) k7, keepE (by decide) k8⟩
    · obtain rfl := Option.some.inj ho
      have d4 := k4 (hall ⟨4, .data⟩ (by simp) rfl)
      refine g_call 27 _ _ [v 4] (kf27 _ _) (rfl) ((less_any _ f wx d4 ff).mono ?_)
      rintro e w' ⟨u_, rfl, hp, hb⟩
      exact ⟨_, rfl, hC.trans (hb.mono hnw), keepE (by decide) k0, (fun h => by rw [setB_other _ _ _ (by decide)] at h; rw [setV_other _ _ _ _ (by decide)]; exact (k1 h).below hb), keepE (by decide) k2, keepE (by decide) k3, (fun h => by rw [setB_other _ _ _ (by decide)] at h; rw [setV_other _ _ _ _ (by decide)]; exact (k4 h).below hb), (fun _ => by rw [setV_self]; exact hp), (fun h => by rw [setB_other _ _ _ (by decide)] at h; rw [setV_other _ _ _ _ (by decide)]; exact (k6 h).below hb), keepE (by decide) k7, keepE (by decide) k8⟩
    · obtain rfl := Option.some.inj ho
      have d1 := k1 (hall ⟨1, .data⟩ (by simp) rfl)
      have d5 := k5 (hall ⟨5, .data⟩ (by simp) rfl)
      refine g_call 25 _ _ [v 1, v 5] (kf25 _ _) (rfl) ((radd_any _ _ T (-f) n wx d1 d5 ft fnf hn).mono ?_)
      rintro e w' ⟨u_, rfl, hp, hb⟩
      exact ⟨_, rfl, hC.trans (hb.mono hnw), keepE (by decide) k0, (fun h => by rw [setB_other _ _ _ (by decide)] at h; rw [setV_other _ _ _ _ (by decide)]; exact (k1 h).below hb), keepE (by decide) k2, keepE (by decide) k3, (fun h => by rw [setB_other _ _ _ (by decide)] at h; rw [setV_other _ _ _ _ (by decide)]; exact (k4 h).below hb), (fun h => by rw [setB_other _ _ _ (by decide)] at h; rw [setV_other _ _ _ _ (by decide)]; exact (k5 h).below hb), (fun _ => by rw [setV_self]; exact hp), keepE (by decide) k7, keepE (by decide) k8⟩
    · obtain rfl := Option.some.inj ho
      have d6 := k6 (hall ⟨6, .data⟩ (by simp) rfl)
      refine g_call 24 _ _ [v 6, .int .i64 (63)] (kf24 _ _) (rfl) ((fits_any _ n 63 wx false d6 fn hfi).mono ?_)
      rintro e w' ⟨rfl, hb⟩
      exact ⟨_, rfl, hC.trans (hb.mono hnw), keepE (by decide) k0, (fun h => by rw [setB_other _ _ _ (by decide)] at h; rw [setV_other _ _ _ _ (by decide)]; exact (k1 h).below hb), keepE (by decide) k2, keepE (by decide) k3, (fun h => by rw [setB_other _ _ _ (by decide)] at h; rw [setV_other _ _ _ _ (by decide)]; exact (k4 h).below hb), (fun h => by rw [setB_other _ _ _ (by decide)] at h; rw [setV_other _ _ _ _ (by decide)]; exact (k5 h).below hb), (fun h => by rw [setB_other _ _ _ (by decide)] at h; rw [setV_other _ _ _ _ (by decide)]; exact (k6 h).below hb), newE rfl, keepE (by decide) k8⟩
    · obtain rfl := Option.some.inj ho
      have d7 := k7 (hall ⟨7, .data⟩ (by simp) rfl)
      refine g_unot 4 _ _ (show v 7 = _ from d7) ?_
      exact ⟨hC, keepE (by decide) k0, (fun h => by rw [setB_other _ _ _ (by decide)] at h; rw [setV_other _ _ _ _ (by decide)]; exact k1 h), keepE (by decide) k2, keepE (by decide) k3, (fun h => by rw [setB_other _ _ _ (by decide)] at h; rw [setV_other _ _ _ _ (by decide)]; exact k4 h), (fun h => by rw [setB_other _ _ _ (by decide)] at h; rw [setV_other _ _ _ _ (by decide)]; exact k5 h), (fun h => by rw [setB_other _ _ _ (by decide)] at h; rw [setV_other _ _ _ _ (by decide)]; exact k6 h), keepE (by decide) k7, newE rfl⟩
    · simp at ho
  · simp only [full, Act.put, List.setIfInBounds_toArray, List.set_cons_succ, List.set_cons_zero, Nat.zero_add, Nat.reduceAdd]
    intro t v w2 hS ht
    obtain ⟨hC, k0, k1, k2, k3, k4, k5, k6, k7, k8⟩ := hS
    have d0 := k0 (ht 0 (by decide)); (try rw [d0])
    clear d0
    have d2 := k2 (ht 2 (by decide)); (try rw [d2])
    clear d2
    have d3 := k3 (ht 3 (by decide)); (try rw [d3])
    clear d3
    have d7 := k7 (ht 7 (by decide)); (try rw [d7])
    clear d7
    have d8 := k8 (ht 8 (by decide)); (try rw [d8])
    clear d8
    clear ht k0 k1 k2 k3 k4 k5 k6 k7 k8 lt_c
    generalize v 1 = y1_1
    generalize v 4 = y1_4
    generalize v 5 = y1_5
    generalize v 6 = y1_6
    clear hB0
    replace b_c := b_c.below hC b_c.lt
    replace hB := hB.trans (hC.mono hB.size)
    clear hC
    go_wp2_with fail
    go_ret2
    exact ⟨rfl, hB⟩

theorem rshows_l2 (f s r t Y : Int) (w : World) (hf : In64 f) (hs : In64 s) (hr : In64 r) (ht : In64 t) (hY : Hid (shw f s r t = Y)) (hn : In64 (t - f)) :
    Calls Try.prog 29 #[.agg (cl f s r).toArray, .int .i64 t] w fun e w' => ∃ u, e = .returned u ∧ RN w' u Y ∧ Below w.heap.size w w' := by
  have h := rshows_any f s r t w hf hs hr ht hn
  rwa [hY.out] at h

set_option maxRecDepth 10000 in
set_option maxHeartbeats 4000000 in
theorem rread_in (f s r T n Y V E : Int) (w : World) (hf : In64 f) (hs : In64 s) (hr : In64 r) (ht : In64 T) (hl : ¬ T < f) (ff : Few f 200) (ft : Few T 200) (fnf : Few (-f) 200) (fn : Few n 200) (hn : Hid (T + -f = n)) (hfi : Hid (decide (-((2 : Int) ^ 63) ≤ n ∧ n < (2 : Int) ^ 63) = true)) (jn : In64 (T - f)) (hY : Hid (shw f s r T = Y)) (fY : Few Y 200) (hV : Hid (wh Y = (V, E))) :
    Calls Try.prog 12 #[.agg (cl f s r).toArray, .int .i64 T] w fun e w' => e = .returned (.tuple #[.int .i64 (V), .int .i64 (E)]) ∧ Below w.heap.size w w' := by
  go_enter Try.func12, Try.ntmps12
  go_wp2_with (first
    | ((with_reducible refine at_boxD 2 25 ?_); refine L_box 25 _ (cl (f) (s) (r)) rfl ?_; intro w1 t_ b_c; have l_c : w.heap.size ≤ w.heap.size := Nat.le_refl _; have hB : Below w.heap.size w w1 := t_.below (Below.refl _ _) (Nat.le_refl _); clear t_)
    | ((with_reducible refine at_loadD 8 2 ?_); refine L_cell2 _ (w.heap.size) 0 (cl (f) (s) (r)) 25 (.int .i64 (f)) rfl b_c (rfl) ?_)
    | ((with_reducible refine at_binD 9 ?_); refine L_give (by rfl) (g_ilss 2 _ _ .i64 _ _ false rfl rfl (decide_eq_false hl) ?_))
    | ((with_reducible refine stop_region 3 ?_); intro X1 hX1))
  refine hX1.out ?_
  clear hX1
  have hB0 : w1.heap.size ≤ w1.heap.size := Nat.le_refl _
  have lt_c := b_c.lt
  refine wp_region_inv (by kernel_rfl) (by kernel_rfl) (fun t v wx => Below w1.heap.size w1 wx ∧ (t 0 = true → v 0 = .int .i64 (T)) ∧ (t 1 = true → RN wx (v 1) (T)) ∧ (t 2 = true → v 2 = .pointer (some ⟨w.heap.size, 0, none⟩)) ∧ (t 3 = true → v 3 = .int .i64 (f)) ∧ (t 4 = true → RN wx (v 4) (f)) ∧ (t 5 = true → RN wx (v 5) (-f)) ∧ (t 6 = true → RN wx (v 6) (n)) ∧ (t 7 = true → v 7 = .bool true) ∧ (t 8 = true → v 8 = .bool false)) ?_ ?_ ?_
  · exact ⟨(Below.refl _ _).drew, (fun h => by cases h), (fun h => by cases h), (fun h => by cases h), (fun h => by cases h), (fun h => by cases h), (fun h => by cases h), (fun h => by cases h), (fun h => by cases h), (fun h => by cases h)⟩
  · simp only [full, Act.put, List.setIfInBounds_toArray, List.set_cons_succ, List.set_cons_zero, Nat.zero_add, Nat.reduceAdd]
    intro i o ho t v wx hS hti hall
    obtain ⟨hC, k0, k1, k2, k3, k4, k5, k6, k7, k8⟩ := hS
    have hnw : w1.heap.size ≤ wx.heap.size := Nat.le_trans hB0 hC.size
    rcases i with _ | _ | _ | _ | _ | _ | _ | _ | _ | i
    · obtain rfl := Option.some.inj ho
      refine g_move _ _ rfl ?_
      exact ⟨hC, newE rfl, (fun h => by rw [setB_other _ _ _ (by decide)] at h; rw [setV_other _ _ _ _ (by decide)]; exact k1 h), keepE (by decide) k2, keepE (by decide) k3, (fun h => by rw [setB_other _ _ _ (by decide)] at h; rw [setV_other _ _ _ _ (by decide)]; exact k4 h), (fun h => by rw [setB_other _ _ _ (by decide)] at h; rw [setV_other _ _ _ _ (by decide)]; exact k5 h), (fun h => by rw [setB_other _ _ _ (by decide)] at h; rw [setV_other _ _ _ _ (by decide)]; exact k6 h), keepE (by decide) k7, keepE (by decide) k8⟩
    · obtain rfl := Option.some.inj ho
      have d0 := k0 (hall ⟨0, .data⟩ (by simp) rfl)
      refine g_call 26 _ _ [.int .i64 (T)] (kf26 _ _) (by show ([v 0] : List Value) = _; rw [d0]; (try rfl)) ((rof_any T wx ht).mono ?_)
      rintro e w' ⟨u_, rfl, hp, hb⟩
      exact ⟨_, rfl, hC.trans (hb.mono hnw), keepE (by decide) k0, (fun _ => by rw [setV_self]; exact hp), keepE (by decide) k2, keepE (by decide) k3, (fun h => by rw [setB_other _ _ _ (by decide)] at h; rw [setV_other _ _ _ _ (by decide)]; exact (k4 h).below hb), (fun h => by rw [setB_other _ _ _ (by decide)] at h; rw [setV_other _ _ _ _ (by decide)]; exact (k5 h).below hb), (fun h => by rw [setB_other _ _ _ (by decide)] at h; rw [setV_other _ _ _ _ (by decide)]; exact (k6 h).below hb), keepE (by decide) k7, keepE (by decide) k8⟩
    · obtain rfl := Option.some.inj ho
      refine g_fK0 _ _ rfl ?_
      exact ⟨hC, keepE (by decide) k0, (fun h => by rw [setB_other _ _ _ (by decide)] at h; rw [setV_other _ _ _ _ (by decide)]; exact k1 h), newE rfl, keepE (by decide) k3, (fun h => by rw [setB_other _ _ _ (by decide)] at h; rw [setV_other _ _ _ _ (by decide)]; exact k4 h), (fun h => by rw [setB_other _ _ _ (by decide)] at h; rw [setV_other _ _ _ _ (by decide)]; exact k5 h), (fun h => by rw [setB_other _ _ _ (by decide)] at h; rw [setV_other _ _ _ _ (by decide)]; exact k6 h), keepE (by decide) k7, keepE (by decide) k8⟩
    · obtain rfl := Option.some.inj ho
      have d2 := k2 (hall ⟨2, .data⟩ (by simp) rfl)
      refine g_cell2 _ (w.heap.size) 0 (cl (f) (s) (r)) 25 _ (show v 2 = _ from d2) (b_c.below hC b_c.lt) (rfl) ?_
      exact ⟨hC, keepE (by decide) k0, (fun h => by rw [setB_other _ _ _ (by decide)] at h; rw [setV_other _ _ _ _ (by decide)]; exact k1 h), keepE (by decide) k2, newE rfl, (fun h => by rw [setB_other _ _ _ (by decide)] at h; rw [setV_other _ _ _ _ (by decide)]; exact k4 h), (fun h => by rw [setB_other _ _ _ (by decide)] at h; rw [setV_other _ _ _ _ (by decide)]; exact k5 h), (fun h => by rw [setB_other _ _ _ (by decide)] at h; rw [setV_other _ _ _ _ (by decide)]; exact k6 h), keepE (by decide) k7, keepE (by decide) k8⟩
    · obtain rfl := Option.some.inj ho
      have d3 := k3 (hall ⟨3, .data⟩ (by simp) rfl)
      refine g_call 26 _ _ [.int .i64 (f)] (kf26 _ _) (by show ([v 3] : List Value) = _; rw [d3]; (try rfl)) ((rof_any f wx hf).mono ?_)
      rintro e w' ⟨u_, rfl, hp, hb⟩
      exact ⟨_, rfl, hC.trans (hb.mono hnw), keepE (by decide) k0, (fun h => by rw [setB_other _ _ _ (by decide)] at h; rw [setV_other _ _ _ _ (by decide)]; exact (k1 h).below hb), keepE (by decide) k2, keepE (by decide) k3, (fun _ => by rw [setV_self]; exact hp), (fun h => by rw [setB_other _ _ _ (by decide)] at h; rw [setV_other _ _ _ _ (by decide)]; exact (k5 h).below hb), (fun h => by rw [setB_other _ _ _ (by decide)] at h; rw [setV_other _ _ _ _ (by decide)]; exact (k6 h).below hb), keepE (by decide) k7, keepE (by decide) k8⟩
    · obtain rfl := Option.some.inj ho
      have d4 := k4 (hall ⟨4, .data⟩ (by simp) rfl)
      refine g_call 27 _ _ [v 4] (kf27 _ _) (rfl) ((less_any _ f wx d4 ff).mono ?_)
      rintro e w' ⟨u_, rfl, hp, hb⟩
      exact ⟨_, rfl, hC.trans (hb.mono hnw), keepE (by decide) k0, (fun h => by rw [setB_other _ _ _ (by decide)] at h; rw [setV_other _ _ _ _ (by decide)]; exact (k1 h).below hb), keepE (by decide) k2, keepE (by decide) k3, (fun h => by rw [setB_other _ _ _ (by decide)] at h; rw [setV_other _ _ _ _ (by decide)]; exact (k4 h).below hb), (fun _ => by rw [setV_self]; exact hp), (fun h => by rw [setB_other _ _ _ (by decide)] at h; rw [setV_other _ _ _ _ (by decide)]; exact (k6 h).below hb), keepE (by decide) k7, keepE (by decide) k8⟩
    · obtain rfl := Option.some.inj ho
      have d1 := k1 (hall ⟨1, .data⟩ (by simp) rfl)
      have d5 := k5 (hall ⟨5, .data⟩ (by simp) rfl)
      refine g_call 25 _ _ [v 1, v 5] (kf25 _ _) (rfl) ((radd_any _ _ T (-f) n wx d1 d5 ft fnf hn).mono ?_)
      rintro e w' ⟨u_, rfl, hp, hb⟩
      exact ⟨_, rfl, hC.trans (hb.mono hnw), keepE (by decide) k0, (fun h => by rw [setB_other _ _ _ (by decide)] at h; rw [setV_other _ _ _ _ (by decide)]; exact (k1 h).below hb), keepE (by decide) k2, keepE (by decide) k3, (fun h => by rw [setB_other _ _ _ (by decide)] at h; rw [setV_other _ _ _ _ (by decide)]; exact (k4 h).below hb), (fun h => by rw [setB_other _ _ _ (by decide)] at h; rw [setV_other _ _ _ _ (by decide)]; exact (k5 h).below hb), (fun _ => by rw [setV_self]; exact hp), keepE (by decide) k7, keepE (by decide) k8⟩
    · obtain rfl := Option.some.inj ho
      have d6 := k6 (hall ⟨6, .data⟩ (by simp) rfl)
      refine g_call 24 _ _ [v 6, .int .i64 (63)] (kf24 _ _) (rfl) ((fits_any _ n 63 wx true d6 fn hfi).mono ?_)
      rintro e w' ⟨rfl, hb⟩
      exact ⟨_, rfl, hC.trans (hb.mono hnw), keepE (by decide) k0, (fun h => by rw [setB_other _ _ _ (by decide)] at h; rw [setV_other _ _ _ _ (by decide)]; exact (k1 h).below hb), keepE (by decide) k2, keepE (by decide) k3, (fun h => by rw [setB_other _ _ _ (by decide)] at h; rw [setV_other _ _ _ _ (by decide)]; exact (k4 h).below hb), (fun h => by rw [setB_other _ _ _ (by decide)] at h; rw [setV_other _ _ _ _ (by decide)]; exact (k5 h).below hb), (fun h => by rw [setB_other _ _ _ (by decide)] at h; rw [setV_other _ _ _ _ (by decide)]; exact (k6 h).below hb), newE rfl, keepE (by decide) k8⟩
    · obtain rfl := Option.some.inj ho
      have d7 := k7 (hall ⟨7, .data⟩ (by simp) rfl)
      refine g_unot 4 _ _ (show v 7 = _ from d7) ?_
      exact ⟨hC, keepE (by decide) k0, (fun h => by rw [setB_other _ _ _ (by decide)] at h; rw [setV_other _ _ _ _ (by decide)]; exact k1 h), keepE (by decide) k2, keepE (by decide) k3, (fun h => by rw [setB_other _ _ _ (by decide)] at h; rw [setV_other _ _ _ _ (by decide)]; exact k4 h), (fun h => by rw [setB_other _ _ _ (by decide)] at h; rw [setV_other _ _ _ _ (by decide)]; exact k5 h), (fun h => by rw [setB_other _ _ _ (by decide)] at h; rw [setV_other _ _ _ _ (by decide)]; exact k6 h), keepE (by decide) k7, newE rfl⟩
    · simp at ho
  · simp only [full, Act.put, List.setIfInBounds_toArray, List.set_cons_succ, List.set_cons_zero, Nat.zero_add, Nat.reduceAdd]
    intro t v w2 hS ht
    obtain ⟨hC, k0, k1, k2, k3, k4, k5, k6, k7, k8⟩ := hS
    have d0 := k0 (ht 0 (by decide)); (try rw [d0])
    clear d0
    have d2 := k2 (ht 2 (by decide)); (try rw [d2])
    clear d2
    have d3 := k3 (ht 3 (by decide)); (try rw [d3])
    clear d3
    have d7 := k7 (ht 7 (by decide)); (try rw [d7])
    clear d7
    have d8 := k8 (ht 8 (by decide)); (try rw [d8])
    clear d8
    clear ht k0 k1 k2 k3 k4 k5 k6 k7 k8 lt_c
    generalize v 1 = y1_1
    generalize v 4 = y1_4
    generalize v 5 = y1_5
    generalize v 6 = y1_6
    clear hB0
    replace b_c := b_c.below hC b_c.lt
    replace hB := hB.trans (hC.mono hB.size)
    clear hC
    go_wp2_with (first
      | ((with_reducible refine at_loadD 19 25 ?_); refine L_load_all 25 _ (w.heap.size) (cl (f) (s) (r)) 25 _ rfl b_c Try.underlying25 rfl (szK 0 0 0) ?_))
    refine (rshows_l2 f s r T Y w2 hf hs hr ht hY jn).mono ?_
    rintro e w3 ⟨_, rfl, ⟨s_n21, v_n21, rfl, r_n21⟩, t_⟩
    replace b_c := b_c.below t_ b_c.lt
    replace hB := hB.trans (t_.mono hB.size)
    clear t_
    go_wp2_with fail
    refine (rwhole_any _ Y V E w3 ⟨_, _, rfl, r_n21⟩ fY hV).mono ?_
    rintro e w4 ⟨rfl, t_⟩
    replace r_n21 := r_n21.below t_
    replace b_c := b_c.below t_ b_c.lt
    replace hB := hB.trans (t_.mono hB.size)
    clear t_
    go_wp2_with fail
    go_ret2
    exact ⟨rfl, hB⟩

theorem rread_any (f s r t V E : Int) (w : World) (hf : In64 f) (hs : In64 s) (hr : In64 r) (ht : In64 t) (h : Hid (rd f s r t = (V, E))) :
    Calls Try.prog 12 #[.agg (cl f s r).toArray, .int .i64 t] w fun e w' => e = .returned (.tuple #[.int .i64 V, .int .i64 E]) ∧ Below w.heap.size w w' := by
  have h := h.out
  have hf' := hf
  have ht' := ht
  unfold In64 at hf' ht'
  unfold rd at h
  split at h
  · rename_i hl
    cases h
    exact rread_lt f s r t w hf hs hr ht hl
  · rename_i hl
    split at h
    · have jn : In64 (t - f) := by unfold In64; omega
      have hb := shw_few f s r t hs hr jn
      exact rread_in f s r t (t - f) _ V E w hf hs hr ht hl (few64 f hf) (few64 t ht) (few128 _ (by omega)) (few64 _ jn) (by show _ = _; omega) (fit63 _ jn) jn rfl (few128 _ (by omega)) h
    · cases h
      exact rread_far f s r t (t - f) w hf hs hr ht hl (few64 f hf) (few64 t ht) (few128 _ (by omega)) (few128 _ (by omega)) (by show _ = _; omega) (nofit63 _ (by unfold In64; omega))

set_option maxRecDepth 10000 in
set_option maxHeartbeats 4000000 in
theorem rturn_lo (f s r t q : Int) (w : World) (hf : In64 f) (hs : In64 s) (hr : In64 r) (ht : In64 t) (hq : q < -100000000) :
    Calls Try.prog 14 #[.agg (cl f s r).toArray, .int .i64 t, .int .i64 q] w fun e w' => e = .returned (.tuple #[.agg (cl (0) (0) (0)).toArray, .int .i64 (3)]) ∧ Below w.heap.size w w' := by
  go_enter Try.func14, Try.ntmps14
  go_wp2_with (first
    | ((with_reducible refine at_boxD 3 25 ?_); refine L_box 25 _ (cl (f) (s) (r)) rfl ?_; intro w1 t_ b_c; have l_c : w.heap.size ≤ w.heap.size := Nat.le_refl _; have hB : Below w.heap.size w w1 := t_.below (Below.refl _ _) (Nat.le_refl _); clear t_)
    | ((with_reducible refine at_allocD 6 25 ?_); refine L_alloc 25 (cl 0 0 0) zeroK ?_; intro w2 t_ b_r; have l_r : w.heap.size ≤ w1.heap.size := hB.size; have o_r := b_c.lt; replace b_c := t_.blk b_c (by omega); replace hB := t_.below hB l_r; clear t_)
    | ((with_reducible refine at_binD 11 ?_); refine L_give (by rfl) (g_ilss 2 _ _ .i64 _ _ true rfl rfl (decide_eq_true hq) ?_))
    | ((with_reducible refine at_bld 16 ?_); refine L_give (by rfl) (g_bldK0 ?_))
    | ((with_reducible refine at_storeX 6 25 ?_); refine L_store_all 25 _ _ (w1.heap.size) (cl (0) (0) (0)) _ 25 rfl rfl b_r (szK 0 0 0) (rfl) (one_cl _ _ _) ?_; have b0_r := b_r; clear b_r; intro w3 t_ b_r; replace b_c := t_.blk b_c (by omega); replace hB := t_.below hB l_r; clear t_ b0_r))
  exact bodyPost_ret (results_blk_tmp rfl _ (cl (0) (0) (0)) (.int .i64 (3)) _ rfl rfl b_r Try.underlying25 rfl (szK 0 0 0)) rfl ⟨rfl, hB⟩

set_option maxRecDepth 10000 in
set_option maxHeartbeats 4000000 in
theorem rturn_hi (f s r t q : Int) (w : World) (hf : In64 f) (hs : In64 s) (hr : In64 r) (ht : In64 t) (hq : ¬ q < -100000000) (hq2 : 100000000 < q) :
    Calls Try.prog 14 #[.agg (cl f s r).toArray, .int .i64 t, .int .i64 q] w fun e w' => e = .returned (.tuple #[.agg (cl (0) (0) (0)).toArray, .int .i64 (3)]) ∧ Below w.heap.size w w' := by
  go_enter Try.func14, Try.ntmps14
  go_wp2_with (first
    | ((with_reducible refine at_boxD 3 25 ?_); refine L_box 25 _ (cl (f) (s) (r)) rfl ?_; intro w1 t_ b_c; have l_c : w.heap.size ≤ w.heap.size := Nat.le_refl _; have hB : Below w.heap.size w w1 := t_.below (Below.refl _ _) (Nat.le_refl _); clear t_)
    | ((with_reducible refine at_allocD 6 25 ?_); refine L_alloc 25 (cl 0 0 0) zeroK ?_; intro w2 t_ b_r; have l_r : w.heap.size ≤ w1.heap.size := hB.size; have o_r := b_c.lt; replace b_c := t_.blk b_c (by omega); replace hB := t_.below hB l_r; clear t_)
    | ((with_reducible refine at_binD 11 ?_); refine L_give (by rfl) (g_ilss 2 _ _ .i64 _ _ false rfl rfl (decide_eq_false hq) ?_))
    | ((with_reducible refine at_binD 14 ?_); refine L_give (by rfl) (g_igtr 2 _ _ .i64 _ _ true rfl rfl (decide_eq_true hq2) ?_))
    | ((with_reducible refine at_bld 16 ?_); refine L_give (by rfl) (g_bldK0 ?_))
    | ((with_reducible refine at_storeX 6 25 ?_); refine L_store_all 25 _ _ (w1.heap.size) (cl (0) (0) (0)) _ 25 rfl rfl b_r (szK 0 0 0) (rfl) (one_cl _ _ _) ?_; have b0_r := b_r; clear b_r; intro w3 t_ b_r; replace b_c := t_.blk b_c (by omega); replace hB := t_.below hB l_r; clear t_ b0_r))
  exact bodyPost_ret (results_blk_tmp rfl _ (cl (0) (0) (0)) (.int .i64 (3)) _ rfl rfl b_r Try.underlying25 rfl (szK 0 0 0)) rfl ⟨rfl, hB⟩

set_option maxRecDepth 10000 in
set_option maxHeartbeats 4000000 in
theorem rturn_e (f s r t q V E : Int) (w : World) (hf : In64 f) (hs : In64 s) (hr : In64 r) (ht : In64 t) (hq : ¬ q < -100000000) (hq2 : ¬ 100000000 < q) (hV : Hid (rd f s r t = (V, E))) (hE : E ≠ 0) :
    Calls Try.prog 14 #[.agg (cl f s r).toArray, .int .i64 t, .int .i64 q] w fun e w' => e = .returned (.tuple #[.agg (cl (0) (0) (0)).toArray, .int .i64 (E)]) ∧ Below w.heap.size w w' := by
  go_enter Try.func14, Try.ntmps14
  go_wp2_with (first
    | ((with_reducible refine at_boxD 3 25 ?_); refine L_box 25 _ (cl (f) (s) (r)) rfl ?_; intro w1 t_ b_c; have l_c : w.heap.size ≤ w.heap.size := Nat.le_refl _; have hB : Below w.heap.size w w1 := t_.below (Below.refl _ _) (Nat.le_refl _); clear t_)
    | ((with_reducible refine at_allocD 6 25 ?_); refine L_alloc 25 (cl 0 0 0) zeroK ?_; intro w2 t_ b_r; have l_r : w.heap.size ≤ w1.heap.size := hB.size; have o_r := b_c.lt; replace b_c := t_.blk b_c (by omega); replace hB := t_.below hB l_r; clear t_)
    | ((with_reducible refine at_binD 11 ?_); refine L_give (by rfl) (g_ilss 2 _ _ .i64 _ _ false rfl rfl (decide_eq_false hq) ?_))
    | ((with_reducible refine at_binD 14 ?_); refine L_give (by rfl) (g_igtr 2 _ _ .i64 _ _ false rfl rfl (decide_eq_false hq2) ?_))
    | ((with_reducible refine at_loadD 18 25 ?_); refine L_load_all 25 _ (w.heap.size) (cl (f) (s) (r)) 25 _ rfl b_c Try.underlying25 rfl (szK 0 0 0) ?_))
  refine (rread_any f s r t V E w2 hf hs hr ht hV).mono ?_
  rintro e w3 ⟨rfl, t_⟩
  replace b_c := b_c.below t_ b_c.lt
  replace b_r := b_r.below t_ b_r.lt
  replace hB := hB.trans (t_.mono hB.size)
  clear t_
  go_wp2_with (first
    | ((with_reducible refine at_binD 24 ?_); refine L_give (by rfl) (g_ine 26 _ _ .i64 _ _ true rfl rfl (decide_eq_true hE) ?_))
    | ((with_reducible refine at_bld 25 ?_); refine L_give (by rfl) (g_bldK0 ?_))
    | ((with_reducible refine at_storeX 6 25 ?_); refine L_store_all 25 _ _ (w1.heap.size) (cl (0) (0) (0)) _ 25 rfl rfl b_r (szK 0 0 0) (rfl) (one_cl _ _ _) ?_; have b0_r := b_r; clear b_r; intro w4 t_ b_r; replace b_c := t_.blk b_c (by omega); replace hB := t_.below hB l_r; clear t_ b0_r))
  exact bodyPost_ret (results_blk_tmp rfl _ (cl (0) (0) (0)) (.int .i64 (E)) _ rfl rfl b_r Try.underlying25 rfl (szK 0 0 0)) rfl ⟨rfl, hB⟩

set_option maxRecDepth 10000 in
set_option maxHeartbeats 4000000 in
theorem rturn_ok (f s r t q V : Int) (w : World) (hf : In64 f) (hs : In64 s) (hr : In64 r) (ht : In64 t) (hq : ¬ q < -100000000) (hq2 : ¬ 100000000 < q) (hV : Hid (rd f s r t = (V, 0))) :
    Calls Try.prog 14 #[.agg (cl f s r).toArray, .int .i64 t, .int .i64 q] w fun e w' => e = .returned (.tuple #[.agg (cl (t) (V) (q)).toArray, .int .i64 (0)]) ∧ Below w.heap.size w w' := by
  go_enter Try.func14, Try.ntmps14
  go_wp2_with (first
    | ((with_reducible refine at_boxD 3 25 ?_); refine L_box 25 _ (cl (f) (s) (r)) rfl ?_; intro w1 t_ b_c; have l_c : w.heap.size ≤ w.heap.size := Nat.le_refl _; have hB : Below w.heap.size w w1 := t_.below (Below.refl _ _) (Nat.le_refl _); clear t_)
    | ((with_reducible refine at_allocD 6 25 ?_); refine L_alloc 25 (cl 0 0 0) zeroK ?_; intro w2 t_ b_r; have l_r : w.heap.size ≤ w1.heap.size := hB.size; have o_r := b_c.lt; replace b_c := t_.blk b_c (by omega); replace hB := t_.below hB l_r; clear t_)
    | ((with_reducible refine at_binD 11 ?_); refine L_give (by rfl) (g_ilss 2 _ _ .i64 _ _ false rfl rfl (decide_eq_false hq) ?_))
    | ((with_reducible refine at_binD 14 ?_); refine L_give (by rfl) (g_igtr 2 _ _ .i64 _ _ false rfl rfl (decide_eq_false hq2) ?_))
    | ((with_reducible refine at_loadD 18 25 ?_); refine L_load_all 25 _ (w.heap.size) (cl (f) (s) (r)) 25 _ rfl b_c Try.underlying25 rfl (szK 0 0 0) ?_))
  refine (rread_any f s r t V 0 w2 hf hs hr ht hV).mono ?_
  rintro e w3 ⟨rfl, t_⟩
  replace b_c := b_c.below t_ b_c.lt
  replace b_r := b_r.below t_ b_r.lt
  replace hB := hB.trans (t_.mono hB.size)
  clear t_
  go_wp2_with (first
    | ((with_reducible refine at_bld 30 ?_); refine L_give (by rfl) (g_bldK _ _ _ _ _ _ rfl rfl rfl ?_))
    | ((with_reducible refine at_storeX 6 25 ?_); refine L_store_all 25 _ _ (w1.heap.size) (cl (t) (V) (q)) _ 25 rfl rfl b_r (szK 0 0 0) (rfl) (one_cl _ _ _) ?_; have b0_r := b_r; clear b_r; intro w4 t_ b_r; replace b_c := t_.blk b_c (by omega); replace hB := t_.below hB l_r; clear t_ b0_r))
  exact bodyPost_ret (results_blk_tmp rfl _ (cl (t) (V) (q)) (.int .i64 (0)) _ rfl rfl b_r Try.underlying25 rfl (szK 0 0 0)) rfl ⟨rfl, hB⟩

theorem rturn_any (f s r t q F S R E : Int) (w : World) (hf : In64 f) (hs : In64 s) (hr : In64 r) (ht : In64 t) (h : Hid (trn f s r t q = (F, S, R, E))) :
    Calls Try.prog 14 #[.agg (cl f s r).toArray, .int .i64 t, .int .i64 q] w fun e w' => e = .returned (.tuple #[.agg (cl F S R).toArray, .int .i64 E]) ∧ Below w.heap.size w w' := by
  have h := h.out
  unfold trn at h
  split at h
  · rename_i hq
    unfold anw at h
    have j64 := rd_64 f s r t
    obtain ⟨⟨V, X⟩, hV⟩ : ∃ x, rd f s r t = x := ⟨_, rfl⟩
    rw [hV] at h j64
    have j64 : In64 V := j64
    split at h
    · rename_i h0
      have h0 : X = 0 := h0
      subst h0
      rw [show ((V, (0 : Int)).1 + 0) = V from Int.add_zero V, wh_in V j64, if_pos rfl] at h
      cases h
      exact rturn_ok f s r t q V w hf hs hr ht (by omega) (by omega) hV
    · rename_i h0
      cases h
      exact rturn_e f s r t q V X w hf hs hr ht (by omega) (by omega) hV h0
  · rename_i hq
    cases h
    by_cases h1 : q < -100000000
    · exact rturn_lo f s r t q w hf hs hr ht h1
    · exact rturn_hi f s r t q w hf hs hr ht h1 (by omega)

set_option maxRecDepth 10000 in
set_option maxHeartbeats 4000000 in
theorem rstep_e (f s r t b V E : Int) (w : World) (hf : In64 f) (hs : In64 s) (hr : In64 r) (ht : In64 t) (hb : In64 b) (hV : Hid (rd f s r t = (V, E))) (hE : E ≠ 0) :
    Calls Try.prog 16 #[.agg (cl f s r).toArray, .int .i64 t, .int .i64 b] w fun e w' => e = .returned (.tuple #[.agg (cl (0) (0) (0)).toArray, .int .i64 (E)]) ∧ Below w.heap.size w w' := by
  go_enter Try.func16, Try.ntmps16
  go_wp2_with (first
    | ((with_reducible refine at_boxD 3 25 ?_); refine L_box 25 _ (cl (f) (s) (r)) rfl ?_; intro w1 t_ b_c; have l_c : w.heap.size ≤ w.heap.size := Nat.le_refl _; have hB : Below w.heap.size w w1 := t_.below (Below.refl _ _) (Nat.le_refl _); clear t_)
    | ((with_reducible refine at_allocD 6 25 ?_); refine L_alloc 25 (cl 0 0 0) zeroK ?_; intro w2 t_ b_r; have l_r : w.heap.size ≤ w1.heap.size := hB.size; have o_r := b_c.lt; replace b_c := t_.blk b_c (by omega); replace hB := t_.below hB l_r; clear t_)
    | ((with_reducible refine at_loadD 12 25 ?_); refine L_load_all 25 _ (w.heap.size) (cl (f) (s) (r)) 25 _ rfl b_c Try.underlying25 rfl (szK 0 0 0) ?_))
  refine (rread_any f s r t V E w2 hf hs hr ht hV).mono ?_
  rintro e w3 ⟨rfl, t_⟩
  replace b_c := b_c.below t_ b_c.lt
  replace b_r := b_r.below t_ b_r.lt
  replace hB := hB.trans (t_.mono hB.size)
  clear t_
  go_wp2_with (first
    | ((with_reducible refine at_binD 18 ?_); refine L_give (by rfl) (g_ine 26 _ _ .i64 _ _ true rfl rfl (decide_eq_true hE) ?_))
    | ((with_reducible refine at_bld 19 ?_); refine L_give (by rfl) (g_bldK0 ?_))
    | ((with_reducible refine at_storeX 6 25 ?_); refine L_store_all 25 _ _ (w1.heap.size) (cl (0) (0) (0)) _ 25 rfl rfl b_r (szK 0 0 0) (rfl) (one_cl _ _ _) ?_; have b0_r := b_r; clear b_r; intro w4 t_ b_r; replace b_c := t_.blk b_c (by omega); replace hB := t_.below hB l_r; clear t_ b0_r))
  exact bodyPost_ret (results_blk_tmp rfl _ (cl (0) (0) (0)) (.int .i64 (E)) _ rfl rfl b_r Try.underlying25 rfl (szK 0 0 0)) rfl ⟨rfl, hB⟩

set_option maxRecDepth 10000 in
set_option maxHeartbeats 4000000 in
theorem rstep_f (f s r t b V Z X F : Int) (w : World) (hf : In64 f) (hs : In64 s) (hr : In64 r) (ht : In64 t) (hb : In64 b) (hV : Hid (rd f s r t = (V, 0))) (jV : In64 V) (fV : Few V 200) (fb : Few b 200) (fZ : Few Z 200) (hZ : Hid (V + b = Z)) (hX : Hid (wh Z = (X, F))) (hF : F ≠ 0) :
    Calls Try.prog 16 #[.agg (cl f s r).toArray, .int .i64 t, .int .i64 b] w fun e w' => e = .returned (.tuple #[.agg (cl (0) (0) (0)).toArray, .int .i64 (F)]) ∧ Below w.heap.size w w' := by
  go_enter Try.func16, Try.ntmps16
  go_wp2_with (first
    | ((with_reducible refine at_boxD 3 25 ?_); refine L_box 25 _ (cl (f) (s) (r)) rfl ?_; intro w1 t_ b_c; have l_c : w.heap.size ≤ w.heap.size := Nat.le_refl _; have hB : Below w.heap.size w w1 := t_.below (Below.refl _ _) (Nat.le_refl _); clear t_)
    | ((with_reducible refine at_allocD 6 25 ?_); refine L_alloc 25 (cl 0 0 0) zeroK ?_; intro w2 t_ b_r; have l_r : w.heap.size ≤ w1.heap.size := hB.size; have o_r := b_c.lt; replace b_c := t_.blk b_c (by omega); replace hB := t_.below hB l_r; clear t_)
    | ((with_reducible refine at_loadD 12 25 ?_); refine L_load_all 25 _ (w.heap.size) (cl (f) (s) (r)) 25 _ rfl b_c Try.underlying25 rfl (szK 0 0 0) ?_))
  refine (rread_any f s r t V 0 w2 hf hs hr ht hV).mono ?_
  rintro e w3 ⟨rfl, t_⟩
  replace b_c := b_c.below t_ b_c.lt
  replace b_r := b_r.below t_ b_r.lt
  replace hB := hB.trans (t_.mono hB.size)
  clear t_
  go_wp2_with fail
  refine (rof_any V w3 jV).mono ?_
  rintro e w4 ⟨_, rfl, ⟨s_n23, v_n23, rfl, r_n23⟩, t_⟩
  replace b_c := b_c.below t_ b_c.lt
  replace b_r := b_r.below t_ b_r.lt
  replace hB := hB.trans (t_.mono hB.size)
  clear t_
  go_wp2_with fail
  refine (rof_any b w4 hb).mono ?_
  rintro e w5 ⟨_, rfl, ⟨s_n25, v_n25, rfl, r_n25⟩, t_⟩
  replace r_n23 := r_n23.below t_
  replace b_c := b_c.below t_ b_c.lt
  replace b_r := b_r.below t_ b_r.lt
  replace hB := hB.trans (t_.mono hB.size)
  clear t_
  go_wp2_with fail
  refine (radd_any _ _ V b Z w5 ⟨_, _, rfl, r_n23⟩ ⟨_, _, rfl, r_n25⟩ fV fb hZ).mono ?_
  rintro e w6 ⟨_, rfl, ⟨s_n26, v_n26, rfl, r_n26⟩, t_⟩
  replace r_n23 := r_n23.below t_
  replace r_n25 := r_n25.below t_
  replace b_c := b_c.below t_ b_c.lt
  replace b_r := b_r.below t_ b_r.lt
  replace hB := hB.trans (t_.mono hB.size)
  clear t_
  go_wp2_with fail
  refine (rwhole_any _ Z X F w6 ⟨_, _, rfl, r_n26⟩ fZ hX).mono ?_
  rintro e w7 ⟨rfl, t_⟩
  replace r_n23 := r_n23.below t_
  replace r_n25 := r_n25.below t_
  replace r_n26 := r_n26.below t_
  replace b_c := b_c.below t_ b_c.lt
  replace b_r := b_r.below t_ b_r.lt
  replace hB := hB.trans (t_.mono hB.size)
  clear t_
  go_wp2_with (first
    | ((with_reducible refine at_binD 31 ?_); refine L_give (by rfl) (g_ine 26 _ _ .i64 _ _ true rfl rfl (decide_eq_true hF) ?_))
    | ((with_reducible refine at_bld 32 ?_); refine L_give (by rfl) (g_bldK0 ?_))
    | ((with_reducible refine at_storeX 6 25 ?_); refine L_store_all 25 _ _ (w1.heap.size) (cl (0) (0) (0)) _ 25 rfl rfl b_r (szK 0 0 0) (rfl) (one_cl _ _ _) ?_; have b0_r := b_r; clear b_r; intro w8 t_ b_r; replace r_n23 := r_n23.turn t_ b0_r (by decide); replace r_n25 := r_n25.turn t_ b0_r (by decide); replace r_n26 := r_n26.turn t_ b0_r (by decide); replace b_c := t_.blk b_c (by omega); replace hB := t_.below hB l_r; clear t_ b0_r))
  exact bodyPost_ret (results_blk_tmp rfl _ (cl (0) (0) (0)) (.int .i64 (F)) _ rfl rfl b_r Try.underlying25 rfl (szK 0 0 0)) rfl ⟨rfl, hB⟩

set_option maxRecDepth 10000 in
set_option maxHeartbeats 4000000 in
theorem rstep_ok (f s r t b V Z X : Int) (w : World) (hf : In64 f) (hs : In64 s) (hr : In64 r) (ht : In64 t) (hb : In64 b) (hV : Hid (rd f s r t = (V, 0))) (jV : In64 V) (fV : Few V 200) (fb : Few b 200) (fZ : Few Z 200) (hZ : Hid (V + b = Z)) (hX : Hid (wh Z = (X, 0))) :
    Calls Try.prog 16 #[.agg (cl f s r).toArray, .int .i64 t, .int .i64 b] w fun e w' => e = .returned (.tuple #[.agg (cl (t) (X) (r)).toArray, .int .i64 (0)]) ∧ Below w.heap.size w w' := by
  go_enter Try.func16, Try.ntmps16
  go_wp2_with (first
    | ((with_reducible refine at_boxD 3 25 ?_); refine L_box 25 _ (cl (f) (s) (r)) rfl ?_; intro w1 t_ b_c; have l_c : w.heap.size ≤ w.heap.size := Nat.le_refl _; have hB : Below w.heap.size w w1 := t_.below (Below.refl _ _) (Nat.le_refl _); clear t_)
    | ((with_reducible refine at_allocD 6 25 ?_); refine L_alloc 25 (cl 0 0 0) zeroK ?_; intro w2 t_ b_r; have l_r : w.heap.size ≤ w1.heap.size := hB.size; have o_r := b_c.lt; replace b_c := t_.blk b_c (by omega); replace hB := t_.below hB l_r; clear t_)
    | ((with_reducible refine at_loadD 12 25 ?_); refine L_load_all 25 _ (w.heap.size) (cl (f) (s) (r)) 25 _ rfl b_c Try.underlying25 rfl (szK 0 0 0) ?_))
  refine (rread_any f s r t V 0 w2 hf hs hr ht hV).mono ?_
  rintro e w3 ⟨rfl, t_⟩
  replace b_c := b_c.below t_ b_c.lt
  replace b_r := b_r.below t_ b_r.lt
  replace hB := hB.trans (t_.mono hB.size)
  clear t_
  go_wp2_with fail
  refine (rof_any V w3 jV).mono ?_
  rintro e w4 ⟨_, rfl, ⟨s_n23, v_n23, rfl, r_n23⟩, t_⟩
  replace b_c := b_c.below t_ b_c.lt
  replace b_r := b_r.below t_ b_r.lt
  replace hB := hB.trans (t_.mono hB.size)
  clear t_
  go_wp2_with fail
  refine (rof_any b w4 hb).mono ?_
  rintro e w5 ⟨_, rfl, ⟨s_n25, v_n25, rfl, r_n25⟩, t_⟩
  replace r_n23 := r_n23.below t_
  replace b_c := b_c.below t_ b_c.lt
  replace b_r := b_r.below t_ b_r.lt
  replace hB := hB.trans (t_.mono hB.size)
  clear t_
  go_wp2_with fail
  refine (radd_any _ _ V b Z w5 ⟨_, _, rfl, r_n23⟩ ⟨_, _, rfl, r_n25⟩ fV fb hZ).mono ?_
  rintro e w6 ⟨_, rfl, ⟨s_n26, v_n26, rfl, r_n26⟩, t_⟩
  replace r_n23 := r_n23.below t_
  replace r_n25 := r_n25.below t_
  replace b_c := b_c.below t_ b_c.lt
  replace b_r := b_r.below t_ b_r.lt
  replace hB := hB.trans (t_.mono hB.size)
  clear t_
  go_wp2_with fail
  refine (rwhole_any _ Z X 0 w6 ⟨_, _, rfl, r_n26⟩ fZ hX).mono ?_
  rintro e w7 ⟨rfl, t_⟩
  replace r_n23 := r_n23.below t_
  replace r_n25 := r_n25.below t_
  replace r_n26 := r_n26.below t_
  replace b_c := b_c.below t_ b_c.lt
  replace b_r := b_r.below t_ b_r.lt
  replace hB := hB.trans (t_.mono hB.size)
  clear t_
  go_wp2_with (first
    | ((with_reducible refine at_loadD 37 2 ?_); refine L_cell2 _ (w.heap.size) 2 (cl (f) (s) (r)) 25 (.int .i64 (r)) rfl b_c (rfl) ?_)
    | ((with_reducible refine at_bld 38 ?_); refine L_give (by rfl) (g_bldK _ _ _ _ _ _ rfl rfl rfl ?_))
    | ((with_reducible refine at_storeX 6 25 ?_); refine L_store_all 25 _ _ (w1.heap.size) (cl (t) (X) (r)) _ 25 rfl rfl b_r (szK 0 0 0) (rfl) (one_cl _ _ _) ?_; have b0_r := b_r; clear b_r; intro w8 t_ b_r; replace r_n23 := r_n23.turn t_ b0_r (by decide); replace r_n25 := r_n25.turn t_ b0_r (by decide); replace r_n26 := r_n26.turn t_ b0_r (by decide); replace b_c := t_.blk b_c (by omega); replace hB := t_.below hB l_r; clear t_ b0_r))
  exact bodyPost_ret (results_blk_tmp rfl _ (cl (t) (X) (r)) (.int .i64 (0)) _ rfl rfl b_r Try.underlying25 rfl (szK 0 0 0)) rfl ⟨rfl, hB⟩

theorem rstep_any (f s r t b F S R E : Int) (w : World) (hf : In64 f) (hs : In64 s) (hr : In64 r) (ht : In64 t) (hb : In64 b) (h : Hid (anw f s r t b r = (F, S, R, E))) :
    Calls Try.prog 16 #[.agg (cl f s r).toArray, .int .i64 t, .int .i64 b] w fun e w' => e = .returned (.tuple #[.agg (cl F S R).toArray, .int .i64 E]) ∧ Below w.heap.size w w' := by
  have h := h.out
  unfold anw at h
  have j64 := rd_64 f s r t
  obtain ⟨⟨V, X⟩, hV⟩ : ∃ x, rd f s r t = x := ⟨_, rfl⟩
  rw [hV] at h j64
  have j64 : In64 V := j64
  split at h
  · rename_i h0
    have h0 : X = 0 := h0
    subst h0
    obtain ⟨⟨Y, G⟩, hY⟩ : ∃ x, wh (V + b) = x := ⟨_, rfl⟩
    rw [show wh ((V, (0 : Int)).1 + b) = (Y, G) from hY] at h
    have a1 := j64
    have a2 := hb
    unfold In64 at a1 a2
    have fZ : Few (V + b) 200 := few128 _ (by omega)
    split at h
    · rename_i h0
      have h0 : G = 0 := h0
      subst h0
      cases h
      exact rstep_ok f s r t b V (V + b) Y w hf hs hr ht hb hV j64 (few64 V j64) (few64 b hb) fZ rfl hY
    · rename_i h0
      cases h
      exact rstep_f f s r t b V (V + b) Y G w hf hs hr ht hb hV j64 (few64 V j64) (few64 b hb) fZ rfl hY h0
  · rename_i h0
    cases h
    exact rstep_e f s r t b V X w hf hs hr ht hb hV h0

end Go.Proofs.Ytcllmobjdnhmlaa
